import PyProof.Rows.All
import Wide.All
import OpenK.AllK
import Wide.FinOn
import HandS.ForMost
import HandS.IsInst
import HandS.Conv
import HandS.Evl
import PyProof.StrBlock2
import HandS.ExcInit
import HandS.ExcIs
import HandS.ExcField
import HandS.Wide
import HandS.TupSets
import HandS.DictTup
import HandS.More
import HandS.Walk
import HandS.DictComp
import HandS.TupAny
import KE.KDictDisplayH
import KE.GoesEnum
import HandS.Comp
import HandS.SetBool
import HandS.Strs
import HandS.Deep
import KE.DataCmp
import KE.SortData
import HandS.ForExc
import HandS.HotCalls
import HandS.WordsExc
import HandS.ExcCtx
import KE.GoesMore
import KE.DataMinMax
import PyProof.Claim2Refuses
import HandS.RevRange
import HandS.TupLe
import HandS.LawCells
import HandS.StrMore
import PySem.Challenge.RW_hushedpages_k40_whole_tables_least
set_option Elab.async false
set_option linter.all false
set_option maxRecDepth 100000
set_option maxHeartbeats 4000000
namespace Vf
open PySem PySem.Spec PyProof.Rows L2
def topS (i : Nat) : Stmt := PySem.Challenge.pw_hushedpages_k40_whole_tables_least.main.body.getD i (.Pass ⟨0, 0, 0, 0⟩)
abbrev s_width_of : Stmt := topS 23
theorem sc_width_of : FnScope ["style", "sign"] ["style", "sign"] (defScope s_width_of) := ⟨rfl, rfl, rfl, by decide +kernel, rfl, by decide +kernel, by decide +kernel⟩
abbrev s_cut_of : Stmt := topS 24
theorem sc_cut_of : FnScope ["style", "sign", "next_sign"] ["style", "sign", "next_sign"] (defScope s_cut_of) := ⟨rfl, rfl, rfl, by decide +kernel, rfl, by decide +kernel, by decide +kernel⟩
abbrev s_break_price : Stmt := topS 25
theorem sc_break_price : FnScope ["style", "sign", "next_sign"] ["style", "sign", "next_sign"] (defScope s_break_price) := ⟨rfl, rfl, rfl, by decide +kernel, rfl, by decide +kernel, by decide +kernel⟩
abbrev s_told : Stmt := topS 26
theorem sc_told : FnScope ["rows", "key", "otherwise", "low", "high", "middle"] ["rows", "key", "otherwise"] (defScope s_told) := ⟨rfl, rfl, rfl, by decide +kernel, rfl, by decide +kernel, by decide +kernel⟩
abbrev s_signs_of : Stmt := topS 30
theorem sc_signs_of : FnScope ["style", "word", "first", "behind", "signs", "at"] ["style", "word", "first", "behind"] (defScope s_signs_of) := ⟨rfl, rfl, rfl, by decide +kernel, rfl, by decide +kernel, by decide +kernel⟩
abbrev s_signs_between : Stmt := topS 31
theorem sc_signs_between : FnScope ["style", "word", "first", "last", "places"] ["style", "word", "first", "last"] (defScope s_signs_between) := ⟨rfl, rfl, rfl, by decide +kernel, rfl, by decide +kernel, by decide +kernel⟩
abbrev s_parting_places : Stmt := topS 32
theorem sc_parting_places : FnScope ["style", "word", "at"] ["style", "word"] (defScope s_parting_places) := ⟨rfl, rfl, rfl, by decide +kernel, rfl, by decide +kernel, by decide +kernel⟩
abbrev s_width_at : Stmt := topS 33
theorem sc_width_at : FnScope ["style", "word", "at", "behind"] ["style", "word", "at", "behind"] (defScope s_width_at) := ⟨rfl, rfl, rfl, by decide +kernel, rfl, by decide +kernel, by decide +kernel⟩
abbrev s_piece_strip : Stmt := topS 37
theorem sc_piece_strip : FnScope ["style", "word", "struck", "first", "last", "signs"] ["style", "word", "struck", "first", "last"] (defScope s_piece_strip) := ⟨rfl, rfl, rfl, by decide +kernel, rfl, by decide +kernel, by decide +kernel⟩
abbrev s_word_strip : Stmt := topS 38
theorem sc_word_strip : FnScope ["style", "word", "struck"] ["style", "word", "struck"] (defScope s_word_strip) := ⟨rfl, rfl, rfl, by decide +kernel, rfl, by decide +kernel, by decide +kernel⟩
abbrev s_plain_strip : Stmt := topS 39
theorem sc_plain_strip : FnScope ["signs"] ["signs"] (defScope s_plain_strip) := ⟨rfl, rfl, rfl, by decide +kernel, rfl, by decide +kernel, by decide +kernel⟩
abbrev s_blank_strip : Stmt := topS 40
theorem sc_blank_strip : FnScope ["width"] ["width"] (defScope s_blank_strip) := ⟨rfl, rfl, rfl, by decide +kernel, rfl, by decide +kernel, by decide +kernel⟩
abbrev s_joined : Stmt := topS 41
theorem sc_joined : FnScope ["strips", "traces", "left", "signs", "_", "trace", "at", "width", "struck", "first", "last", "strip"] ["strips"] (defScope s_joined) := ⟨rfl, rfl, rfl, by decide +kernel, rfl, by decide +kernel, by decide +kernel⟩
abbrev s_placed : Stmt := topS 42
theorem sc_placed : FnScope ["strip", "left", "width"] ["strip", "left", "width"] (defScope s_placed) := ⟨rfl, rfl, rfl, by decide +kernel, rfl, by decide +kernel, by decide +kernel⟩
abbrev s_bare : Stmt := topS 43
theorem sc_bare : FnScope ["strips", "strip"] ["strips"] (defScope s_bare) := ⟨rfl, rfl, rfl, by decide +kernel, rfl, by decide +kernel, by decide +kernel⟩
abbrev s_boundaries : Stmt := topS 45
theorem sc_boundaries : FnScope ["tracks", "cells", "demands", "found", "behind", "ahead"] ["tracks", "cells"] (defScope s_boundaries) := ⟨rfl, rfl, rfl, by decide +kernel, rfl, by decide +kernel, by decide +kernel⟩
abbrev s_chain_of : Stmt := topS 46
theorem sc_chain_of : FnScope ["tracks", "cells", "boundary", "demands", "rests", "ahead", "chain", "behind"] ["tracks", "cells", "boundary"] (defScope s_chain_of) := ⟨rfl, rfl, rfl, by decide +kernel, rfl, by decide +kernel, by decide +kernel⟩
abbrev s_judge_chain : Stmt := topS 47
theorem sc_judge_chain : FnScope ["tracks", "cells", "boundary", "value", "chain", "demands", "total", "ahead", "behind"] ["tracks", "cells", "boundary", "value", "chain"] (defScope s_judge_chain) := ⟨rfl, rfl, rfl, by decide +kernel, rfl, by decide +kernel, by decide +kernel⟩
abbrev s_table_strips : Stmt := topS 48
theorem sc_table_strips : FnScope ["style", "rows"] ["style", "rows"] (defScope s_table_strips) := ⟨rfl, rfl, rfl, by decide +kernel, rfl, by decide +kernel, by decide +kernel⟩
abbrev s_traced_table : Stmt := topS 49
theorem sc_traced_table : FnScope ["style", "rows", "measure", "table", "cells", "bounds", "row", "track", "span", "strip", "_"] ["style", "rows"] (defScope s_traced_table) := ⟨rfl, rfl, rfl, by decide +kernel, rfl, by decide +kernel, by decide +kernel⟩
abbrev s_demands : Stmt := topS 50
theorem sc_demands : FnScope ["tracks", "cells", "demands", "track", "span", "width", "sides"] ["tracks", "cells"] (defScope s_demands) := ⟨rfl, rfl, rfl, by decide +kernel, rfl, by decide +kernel, by decide +kernel⟩
abbrev s_cells_of : Stmt := topS 51
theorem sc_cells_of : FnScope ["style", "row", "found", "track", "span", "words"] ["style", "row"] (defScope s_cells_of) := ⟨rfl, rfl, rfl, by decide +kernel, rfl, by decide +kernel, by decide +kernel⟩
abbrev s_cell_strip : Stmt := topS 52
theorem sc_cell_strip : FnScope ["style", "words", "strips", "word", "struck"] ["style", "words"] (defScope s_cell_strip) := ⟨rfl, rfl, rfl, by decide +kernel, rfl, by decide +kernel, by decide +kernel⟩
abbrev s_row_strip : Stmt := topS 53
theorem sc_row_strip : FnScope ["measure", "bounds", "row", "strips", "at", "track", "_", "strip"] ["measure", "bounds", "row"] (defScope s_row_strip) := ⟨rfl, rfl, rfl, by decide +kernel, rfl, by decide +kernel, by decide +kernel⟩
abbrev s_law_begin : Stmt := topS 55
theorem sc_law_begin : FnScope ["_law_script"] ["_law_script"] (defScope s_law_begin) := ⟨rfl, rfl, rfl, by decide +kernel, rfl, by decide +kernel, by decide +kernel⟩
abbrev s_law_draw : Stmt := topS 56
theorem sc_law_draw : FnScope ["_law_d", "_law_many", "_law_cell", "_law_found"] ["_law_d", "_law_many"] (defScope s_law_draw) := ⟨rfl, rfl, rfl, by decide +kernel, rfl, by decide +kernel, by decide +kernel⟩
abbrev s_law_pick : Stmt := topS 57
theorem sc_law_pick : FnScope ["_law_d", "_law_row"] ["_law_d", "_law_row"] (defScope s_law_pick) := ⟨rfl, rfl, rfl, by decide +kernel, rfl, by decide +kernel, by decide +kernel⟩
abbrev s_law_rare : Stmt := topS 58
theorem sc_law_rare : FnScope ["_law_d", "_law_many"] ["_law_d", "_law_many"] (defScope s_law_rare) := ⟨rfl, rfl, rfl, by decide +kernel, rfl, by decide +kernel, by decide +kernel⟩
abbrev s_law_word : Stmt := topS 59
theorem sc_law_word : FnScope ["_law_d", "_law_low", "_law_high", "_law_long", "_law_signs", "_law_k"] ["_law_d", "_law_low", "_law_high"] (defScope s_law_word) := ⟨rfl, rfl, rfl, by decide +kernel, rfl, by decide +kernel, by decide +kernel⟩
abbrev s_law_style : Stmt := topS 60
theorem sc_law_style : FnScope ["_law_d", "_law_measure", "_law_depth", "_law_columns", "_law_widths", "_law_sign", "_law_kind", "_law_cuts", "_law_wide", "_law_pairs", "_law_k", "_law_pair", "_law_breaks", "_law_prices", "_law_one", "_law_two"] ["_law_d", "_law_measure", "_law_depth", "_law_columns"] (defScope s_law_style) := ⟨rfl, rfl, rfl, by decide +kernel, rfl, by decide +kernel, by decide +kernel⟩
abbrev s_law_piece : Stmt := topS 61
theorem sc_law_piece : FnScope ["_law_style_here", "_law_word_here", "_law_first", "_law_behind", "_law_signs", "_law_k", "_law_wide", "_law_one", "_law_w", "_law_two", "_law_cut"] ["_law_style_here", "_law_word_here", "_law_first", "_law_behind"] (defScope s_law_piece) := ⟨rfl, rfl, rfl, by decide +kernel, rfl, by decide +kernel, by decide +kernel⟩
abbrev s_law_covered : Stmt := topS 62
theorem sc_law_covered : FnScope ["_law_strip", "_law_k"] ["_law_strip"] (defScope s_law_covered) := ⟨rfl, rfl, rfl, by decide +kernel, rfl, by decide +kernel, by decide +kernel⟩
abbrev s_law_exact : Stmt := topS 63
theorem sc_law_exact : FnScope ["_law_told_here", "_law_due", "_law_k"] ["_law_told_here", "_law_due"] (defScope s_law_exact) := ⟨rfl, rfl, rfl, by decide +kernel, rfl, by decide +kernel, by decide +kernel⟩
abbrev s_law_told_error : Stmt := topS 64
theorem sc_law_told_error : FnScope ["_law_e", "_law_found", "_law_groups"] ["_law_e"] (defScope s_law_told_error) := ⟨rfl, rfl, rfl, by decide +kernel, rfl, by decide +kernel, by decide +kernel⟩
abbrev s_law_faced : Stmt := topS 65
theorem sc_law_faced : FnScope ["_law_d", "_law_style_here", "_law_widths", "_law_cuts", "_law_k", "_law_sign", "_law_wide", "_law_one"] ["_law_d", "_law_style_here"] (defScope s_law_faced) := ⟨rfl, rfl, rfl, by decide +kernel, rfl, by decide +kernel, by decide +kernel⟩
abbrev s_law_style_drawn : Stmt := topS 66
theorem sc_law_style_drawn : FnScope ["_law_d"] ["_law_d"] (defScope s_law_style_drawn) := ⟨rfl, rfl, rfl, by decide +kernel, rfl, by decide +kernel, by decide +kernel⟩
abbrev s_law_long_word : Stmt := topS 67
theorem sc_law_long_word : FnScope ["_law_d", "_law_many", "_law_signs", "_law_k"] ["_law_d", "_law_many"] (defScope s_law_long_word) := ⟨rfl, rfl, rfl, by decide +kernel, rfl, by decide +kernel, by decide +kernel⟩
abbrev s_law_cell_drawn : Stmt := topS 68
theorem sc_law_cell_drawn : FnScope ["_law_d", "_law_cells", "_law_many", "_law_words", "_law_k", "_law_word_here"] ["_law_d", "_law_cells"] (defScope s_law_cell_drawn) := ⟨rfl, rfl, rfl, by decide +kernel, rfl, by decide +kernel, by decide +kernel⟩
abbrev s_law_row_drawn : Stmt := topS 69
theorem sc_law_row_drawn : FnScope ["_law_d", "_law_many", "_law_row", "_law_room", "_law_k", "_law_span"] ["_law_d", "_law_many"] (defScope s_law_row_drawn) := ⟨rfl, rfl, rfl, by decide +kernel, rfl, by decide +kernel, by decide +kernel⟩
abbrev s_law_rows_drawn : Stmt := topS 70
theorem sc_law_rows_drawn : FnScope ["_law_d", "_law_large", "_law_rows", "_law_k"] ["_law_d"] (defScope s_law_rows_drawn) := ⟨rfl, rfl, rfl, by decide +kernel, rfl, by decide +kernel, by decide +kernel⟩
abbrev s_law_cell_signs : Stmt := topS 71
theorem sc_law_cell_signs : FnScope ["_law_style_here", "_law_words", "_law_signs", "_law_cover", "_law_word_here", "_law_kind", "_law_piece_here"] ["_law_style_here", "_law_words"] (defScope s_law_cell_signs) := ⟨rfl, rfl, rfl, by decide +kernel, rfl, by decide +kernel, by decide +kernel⟩
abbrev s_law_cells_of : Stmt := topS 72
theorem sc_law_cells_of : FnScope ["_law_style_here", "_law_rows", "_law_cells", "_law_tracks", "_law_row", "_law_at", "_law_span", "_law_words"] ["_law_style_here", "_law_rows"] (defScope s_law_cells_of) := ⟨rfl, rfl, rfl, by decide +kernel, rfl, by decide +kernel, by decide +kernel⟩
abbrev s_law_asked_of : Stmt := topS 73
theorem sc_law_asked_of : FnScope ["_law_cells", "_law_ways", "_law_last", "_law_asked", "_law_c", "_law_s", "_law_w"] ["_law_cells", "_law_ways", "_law_last"] (defScope s_law_asked_of) := ⟨rfl, rfl, rfl, by decide +kernel, rfl, by decide +kernel, by decide +kernel⟩
abbrev s_law_integers : Stmt := topS 74
theorem sc_law_integers : FnScope ["_law_told_here", "_law_many", "_law_one"] ["_law_told_here", "_law_many"] (defScope s_law_integers) := ⟨rfl, rfl, rfl, by decide +kernel, rfl, by decide +kernel, by decide +kernel⟩
abbrev s_law_least : Stmt := topS 75
theorem sc_law_least : FnScope ["_law_tracks", "_law_cells", "_law_told_here", "_law_last", "_law_asked"] ["_law_tracks", "_law_cells", "_law_told_here"] (defScope s_law_least) := ⟨rfl, rfl, rfl, by decide +kernel, rfl, by decide +kernel, by decide +kernel⟩
abbrev s_law_not_less : Stmt := topS 76
theorem sc_law_not_less : FnScope ["_law_d", "_law_tracks", "_law_cells", "_law_told_here", "_law_ways", "_law_last", "_law_k"] ["_law_d", "_law_tracks", "_law_cells", "_law_told_here"] (defScope s_law_not_less) := ⟨rfl, rfl, rfl, by decide +kernel, rfl, by decide +kernel, by decide +kernel⟩
abbrev s_law_demand : Stmt := topS 77
theorem sc_law_demand : FnScope ["_law_cells", "_law_first", "_law_last", "_law_demands", "_law_c", "_law_s", "_law_w"] ["_law_cells", "_law_first", "_law_last"] (defScope s_law_demand) := ⟨rfl, rfl, rfl, by decide +kernel, rfl, by decide +kernel, by decide +kernel⟩
abbrev s_law_walked : Stmt := topS 78
theorem sc_law_walked : FnScope ["_law_cells", "_law_boundary", "_law_chain", "_law_total", "_law_k", "_law_demand_here"] ["_law_cells", "_law_boundary", "_law_chain"] (defScope s_law_walked) := ⟨rfl, rfl, rfl, by decide +kernel, rfl, by decide +kernel, by decide +kernel⟩
abbrev s_law_chains_right : Stmt := topS 79
theorem sc_law_chains_right : FnScope ["_law_d", "_law_tracks", "_law_cells", "_law_told_here", "_law_boundary", "_law_chain", "_law_other"] ["_law_d", "_law_tracks", "_law_cells", "_law_told_here"] (defScope s_law_chains_right) := ⟨rfl, rfl, rfl, by decide +kernel, rfl, by decide +kernel, by decide +kernel⟩
abbrev s_law_moved_right : Stmt := topS 80
theorem sc_law_moved_right : FnScope ["_law_d", "_law_tracks", "_law_cells", "_law_told_here", "_law_at", "_law_c", "_law_s", "_law_w", "_law_more", "_law_wider", "_law_fewer", "_law_k"] ["_law_d", "_law_tracks", "_law_cells", "_law_told_here"] (defScope s_law_moved_right) := ⟨rfl, rfl, rfl, by decide +kernel, rfl, by decide +kernel, by decide +kernel⟩
abbrev s_law_told : Stmt := topS 81
theorem sc_law_told : FnScope ["_law_style_here", "_law_rows", "_law_e"] ["_law_style_here", "_law_rows"] (defScope s_law_told) := ⟨rfl, rfl, rfl, by decide +kernel, rfl, by decide +kernel, by decide +kernel⟩
abbrev s_law_row_right : Stmt := topS 82
theorem sc_law_row_right : FnScope ["_law_style_here", "_law_row", "_law_told_here", "_law_strip", "_law_signs", "_law_cover", "_law_at", "_law_x", "_law_span", "_law_words", "_law_word_signs", "_law_word_cover", "_law_wide", "_law_start"] ["_law_style_here", "_law_row", "_law_told_here", "_law_strip"] (defScope s_law_row_right) := ⟨rfl, rfl, rfl, by decide +kernel, rfl, by decide +kernel, by decide +kernel⟩
abbrev s_law_like : Stmt := topS 83
theorem sc_law_like : FnScope ["_law_told_here", "_law_many", "_law_wide", "_law_strip"] ["_law_told_here", "_law_many", "_law_wide"] (defScope s_law_like) := ⟨rfl, rfl, rfl, by decide +kernel, rfl, by decide +kernel, by decide +kernel⟩
abbrev s_law_exchanged : Stmt := topS 84
theorem sc_law_exchanged : FnScope ["_law_style_here", "_law_words", "_law_found", "_law_word_here", "_law_kind", "_law_wide"] ["_law_style_here", "_law_words"] (defScope s_law_exchanged) := ⟨rfl, rfl, rfl, by decide +kernel, rfl, by decide +kernel, by decide +kernel⟩
abbrev s_law_strips_right : Stmt := topS 85
theorem sc_law_strips_right : FnScope ["_law_style_here", "_law_rows", "_law_told_here", "_law_answer", "_law_k", "_law_others", "_law_row", "_law_again", "_law_span", "_law_words", "_law_strip"] ["_law_style_here", "_law_rows", "_law_told_here"] (defScope s_law_strips_right) := ⟨rfl, rfl, rfl, by decide +kernel, rfl, by decide +kernel, by decide +kernel⟩
abbrev s_law : Stmt := topS 86
theorem sc_law : FnScope ["_law_script", "_law_d", "_law_style_here", "_law_rows", "_law_tracks", "_law_cells", "_law_told_here", "_law_k", "_law_measure"] ["_law_script"] (defScope s_law) := ⟨rfl, rfl, rfl, by decide +kernel, rfl, by decide +kernel, by decide +kernel⟩
abbrev s_TooWide_init : Stmt := inClass (topS 13) 0
theorem sc_TooWide_init : FnScope ["self", "part"] ["self", "part"] (defScope s_TooWide_init) := ⟨rfl, rfl, rfl, by decide +kernel, rfl, by decide +kernel, by decide +kernel⟩
/-- a class of the text -/
structure ClsAt (K : PySem.W.Frag) (mg : Str → Option Value) (x : Str) (C : Addr) : Prop where
  G : mg x = some (.ref C)
  ic : PySem.W.isClsIn K C = true
  ty : PySem.W.typeIn K (.ref C) = some (.type "type")
/-- an own error's class with its __init__ -/
structure ErrAt (K : PySem.W.Frag) (mg : Str → Option Value) (x qi : Str) (C fI : Addr) (fd : FuncData) (st : Stmt) (ps fs : List Str) : Prop where
  G : mg x = some (.ref C)
  O : OexC K C
  EC : ExcC K C
  XC : XfC K C
  I : PySem.W.findIn K (.ref C) "__init__" = some (some (.ref fI))
  TI : PySem.W.typeIn K (.ref fI) = some (.type "function")
  F : Fun K "__init__" qi st fI fd
  B : Binds K fd ps []
  no : ∀ f ∈ fs, PySem.W.findIn K (.ref C) f = some none
section
variable {K : PySem.W.Frag} {D C : Addr} {b : Bool}
theorem kitCls_ref (ic : PySem.W.isClsIn K C = true) (ty : PySem.W.typeIn K (.ref C) = some (.type "type")) (sb : PySem.W.subIn K (.ref D) (.ref C) = some b) : PySem.W.kitCls K (.ref D) (.ref C) = some b := by
  have h : ((PySem.W.clsIn K C).isSome && PySem.W.typeIn K (.ref C) == some (.type "type")) = true := by
    have ic2 : (PySem.W.clsIn K C).isSome = true := ic
    rw [ic2, ty] <;> rfl
  show (if ((PySem.W.clsIn K C).isSome && PySem.W.typeIn K (.ref C) == some (.type "type")) = true then PySem.W.subIn K (.ref D) (.ref C) else none) = some b
  rw [if_pos h]; exact sb
theorem kit_ref (dd : PySem.W.subIn K (.ref D) (.ref D) = some true) (ic : PySem.W.isClsIn K C = true) (ty : PySem.W.typeIn K (.ref C) = some (.type "type")) (sb : PySem.W.subIn K (.ref D) (.ref C) = some b) : PySem.W.kitOne K (.ref D) (.ref C) = some b := by
  unfold PySem.W.kitOne
  by_cases h : (Value.ref D == Value.ref C) = true
  · rw [if_pos h]
    have e : Value.ref D = Value.ref C := beq_iff_eq.mp h
    rw [← e, dd] at sb
    exact sb
  · rw [if_neg h]; exact kitCls_ref ic ty sb
theorem kit_typ (sb : PySem.W.subIn K (.ref D) (.type "ValueError") = some true) : PySem.W.kitOne K (.ref D) (.type "ValueError") = some true := by
  have h : (Value.ref D == Value.type "ValueError") = false := beq_eq_false_iff_ne.mpr (fun e => by cases e)
  unfold PySem.W.kitOne
  rw [h, if_neg Bool.false_ne_true]
  show (if PySem.W.kitMeta "ValueError" = true then PySem.W.subIn K (.ref D) (.type "ValueError") else none) = some true
  rw [if_pos (by decide +kernel)]; exact sb
theorem exm_ref (bx : PySem.W.subIn K (.ref C) (.type "BaseException") = some true) (ic : PySem.W.isClsIn K C = true) (ty : PySem.W.typeIn K (.ref C) = some (.type "type")) (sb : PySem.W.subIn K (.ref D) (.ref C) = some b) : PySem.W.exmOne K (.ref D) (.ref C) = some b := by
  have h : (PySem.W.subIn K (.ref C) (.type "BaseException") == some true) = true := by rw [bx] <;> rfl
  show (if (PySem.W.subIn K (.ref C) (.type "BaseException") == some true) = true then PySem.W.kitCls K (.ref D) (.ref C) else none) = some b
  rw [if_pos h]; exact kitCls_ref ic ty sb
end
structure DefAt (K : PySem.W.Frag) (mg : Str → Option Value) (x : Str) (st : Stmt) (ps : List Str) (f : Addr) (fd : FuncData) : Prop where
  F : Fun K x x st f fd
  G : mg x = some (.ref f)
  B : Binds K fd ps []
  E : ∃ kV doc pm an cdv ct, fd = PySem.W.fnOf x x (defArgs st) (defBody st) (defScope st) .none kV doc pm an cdv ct
structure Txt (K : PySem.W.Frag) (mg : Str → Option Value) where
  a_width_of : Addr
  d_width_of : FuncData
  D_width_of : DefAt K mg "width_of" s_width_of ["style", "sign"] a_width_of d_width_of
  a_cut_of : Addr
  d_cut_of : FuncData
  D_cut_of : DefAt K mg "cut_of" s_cut_of ["style", "sign", "next_sign"] a_cut_of d_cut_of
  a_break_price : Addr
  d_break_price : FuncData
  D_break_price : DefAt K mg "break_price" s_break_price ["style", "sign", "next_sign"] a_break_price d_break_price
  a_told : Addr
  d_told : FuncData
  D_told : DefAt K mg "_told" s_told ["rows", "key", "otherwise"] a_told d_told
  a_signs_of : Addr
  d_signs_of : FuncData
  D_signs_of : DefAt K mg "signs_of" s_signs_of ["style", "word", "first", "behind"] a_signs_of d_signs_of
  a_signs_between : Addr
  d_signs_between : FuncData
  D_signs_between : DefAt K mg "signs_between" s_signs_between ["style", "word", "first", "last"] a_signs_between d_signs_between
  a_parting_places : Addr
  d_parting_places : FuncData
  D_parting_places : DefAt K mg "parting_places" s_parting_places ["style", "word"] a_parting_places d_parting_places
  a_width_at : Addr
  d_width_at : FuncData
  D_width_at : DefAt K mg "_width_at" s_width_at ["style", "word", "at", "behind"] a_width_at d_width_at
  a_piece_strip : Addr
  d_piece_strip : FuncData
  D_piece_strip : DefAt K mg "piece_strip" s_piece_strip ["style", "word", "struck", "first", "last"] a_piece_strip d_piece_strip
  a_word_strip : Addr
  d_word_strip : FuncData
  D_word_strip : DefAt K mg "word_strip" s_word_strip ["style", "word", "struck"] a_word_strip d_word_strip
  a_plain_strip : Addr
  d_plain_strip : FuncData
  D_plain_strip : DefAt K mg "plain_strip" s_plain_strip ["signs"] a_plain_strip d_plain_strip
  a_blank_strip : Addr
  d_blank_strip : FuncData
  D_blank_strip : DefAt K mg "blank_strip" s_blank_strip ["width"] a_blank_strip d_blank_strip
  a_joined : Addr
  d_joined : FuncData
  D_joined : DefAt K mg "joined" s_joined ["strips"] a_joined d_joined
  a_placed : Addr
  d_placed : FuncData
  D_placed : DefAt K mg "placed" s_placed ["strip", "left", "width"] a_placed d_placed
  a_bare : Addr
  d_bare : FuncData
  D_bare : DefAt K mg "bare" s_bare ["strips"] a_bare d_bare
  a_boundaries : Addr
  d_boundaries : FuncData
  D_boundaries : DefAt K mg "boundaries" s_boundaries ["tracks", "cells"] a_boundaries d_boundaries
  a_chain_of : Addr
  d_chain_of : FuncData
  D_chain_of : DefAt K mg "chain_of" s_chain_of ["tracks", "cells", "boundary"] a_chain_of d_chain_of
  a_judge_chain : Addr
  d_judge_chain : FuncData
  D_judge_chain : DefAt K mg "judge_chain" s_judge_chain ["tracks", "cells", "boundary", "value", "chain"] a_judge_chain d_judge_chain
  a_table_strips : Addr
  d_table_strips : FuncData
  D_table_strips : DefAt K mg "table_strips" s_table_strips ["style", "rows"] a_table_strips d_table_strips
  a_traced_table : Addr
  d_traced_table : FuncData
  D_traced_table : DefAt K mg "traced_table" s_traced_table ["style", "rows"] a_traced_table d_traced_table
  a_demands : Addr
  d_demands : FuncData
  D_demands : DefAt K mg "_demands" s_demands ["tracks", "cells"] a_demands d_demands
  a_cells_of : Addr
  d_cells_of : FuncData
  D_cells_of : DefAt K mg "_cells_of" s_cells_of ["style", "row"] a_cells_of d_cells_of
  a_cell_strip : Addr
  d_cell_strip : FuncData
  D_cell_strip : DefAt K mg "_cell_strip" s_cell_strip ["style", "words"] a_cell_strip d_cell_strip
  a_row_strip : Addr
  d_row_strip : FuncData
  D_row_strip : DefAt K mg "_row_strip" s_row_strip ["measure", "bounds", "row"] a_row_strip d_row_strip
  a_law_begin : Addr
  d_law_begin : FuncData
  D_law_begin : DefAt K mg "_law_begin" s_law_begin ["_law_script"] a_law_begin d_law_begin
  a_law_draw : Addr
  d_law_draw : FuncData
  D_law_draw : DefAt K mg "_law_draw" s_law_draw ["_law_d", "_law_many"] a_law_draw d_law_draw
  a_law_pick : Addr
  d_law_pick : FuncData
  D_law_pick : DefAt K mg "_law_pick" s_law_pick ["_law_d", "_law_row"] a_law_pick d_law_pick
  a_law_rare : Addr
  d_law_rare : FuncData
  D_law_rare : DefAt K mg "_law_rare" s_law_rare ["_law_d", "_law_many"] a_law_rare d_law_rare
  a_law_word : Addr
  d_law_word : FuncData
  D_law_word : DefAt K mg "_law_word" s_law_word ["_law_d", "_law_low", "_law_high"] a_law_word d_law_word
  a_law_style : Addr
  d_law_style : FuncData
  D_law_style : DefAt K mg "_law_style" s_law_style ["_law_d", "_law_measure", "_law_depth", "_law_columns"] a_law_style d_law_style
  a_law_piece : Addr
  d_law_piece : FuncData
  D_law_piece : DefAt K mg "_law_piece" s_law_piece ["_law_style_here", "_law_word_here", "_law_first", "_law_behind"] a_law_piece d_law_piece
  a_law_covered : Addr
  d_law_covered : FuncData
  D_law_covered : DefAt K mg "_law_covered" s_law_covered ["_law_strip"] a_law_covered d_law_covered
  a_law_exact : Addr
  d_law_exact : FuncData
  D_law_exact : DefAt K mg "_law_exact" s_law_exact ["_law_told_here", "_law_due"] a_law_exact d_law_exact
  a_law_told_error : Addr
  d_law_told_error : FuncData
  D_law_told_error : DefAt K mg "_law_told_error" s_law_told_error ["_law_e"] a_law_told_error d_law_told_error
  a_law_faced : Addr
  d_law_faced : FuncData
  D_law_faced : DefAt K mg "_law_faced" s_law_faced ["_law_d", "_law_style_here"] a_law_faced d_law_faced
  a_law_style_drawn : Addr
  d_law_style_drawn : FuncData
  D_law_style_drawn : DefAt K mg "_law_style_drawn" s_law_style_drawn ["_law_d"] a_law_style_drawn d_law_style_drawn
  a_law_long_word : Addr
  d_law_long_word : FuncData
  D_law_long_word : DefAt K mg "_law_long_word" s_law_long_word ["_law_d", "_law_many"] a_law_long_word d_law_long_word
  a_law_cell_drawn : Addr
  d_law_cell_drawn : FuncData
  D_law_cell_drawn : DefAt K mg "_law_cell_drawn" s_law_cell_drawn ["_law_d", "_law_cells"] a_law_cell_drawn d_law_cell_drawn
  a_law_row_drawn : Addr
  d_law_row_drawn : FuncData
  D_law_row_drawn : DefAt K mg "_law_row_drawn" s_law_row_drawn ["_law_d", "_law_many"] a_law_row_drawn d_law_row_drawn
  a_law_rows_drawn : Addr
  d_law_rows_drawn : FuncData
  D_law_rows_drawn : DefAt K mg "_law_rows_drawn" s_law_rows_drawn ["_law_d"] a_law_rows_drawn d_law_rows_drawn
  a_law_cell_signs : Addr
  d_law_cell_signs : FuncData
  D_law_cell_signs : DefAt K mg "_law_cell_signs" s_law_cell_signs ["_law_style_here", "_law_words"] a_law_cell_signs d_law_cell_signs
  a_law_cells_of : Addr
  d_law_cells_of : FuncData
  D_law_cells_of : DefAt K mg "_law_cells_of" s_law_cells_of ["_law_style_here", "_law_rows"] a_law_cells_of d_law_cells_of
  a_law_asked_of : Addr
  d_law_asked_of : FuncData
  D_law_asked_of : DefAt K mg "_law_asked_of" s_law_asked_of ["_law_cells", "_law_ways", "_law_last"] a_law_asked_of d_law_asked_of
  a_law_integers : Addr
  d_law_integers : FuncData
  D_law_integers : DefAt K mg "_law_integers" s_law_integers ["_law_told_here", "_law_many"] a_law_integers d_law_integers
  a_law_least : Addr
  d_law_least : FuncData
  D_law_least : DefAt K mg "_law_least" s_law_least ["_law_tracks", "_law_cells", "_law_told_here"] a_law_least d_law_least
  a_law_not_less : Addr
  d_law_not_less : FuncData
  D_law_not_less : DefAt K mg "_law_not_less" s_law_not_less ["_law_d", "_law_tracks", "_law_cells", "_law_told_here"] a_law_not_less d_law_not_less
  a_law_demand : Addr
  d_law_demand : FuncData
  D_law_demand : DefAt K mg "_law_demand" s_law_demand ["_law_cells", "_law_first", "_law_last"] a_law_demand d_law_demand
  a_law_walked : Addr
  d_law_walked : FuncData
  D_law_walked : DefAt K mg "_law_walked" s_law_walked ["_law_cells", "_law_boundary", "_law_chain"] a_law_walked d_law_walked
  a_law_chains_right : Addr
  d_law_chains_right : FuncData
  D_law_chains_right : DefAt K mg "_law_chains_right" s_law_chains_right ["_law_d", "_law_tracks", "_law_cells", "_law_told_here"] a_law_chains_right d_law_chains_right
  a_law_moved_right : Addr
  d_law_moved_right : FuncData
  D_law_moved_right : DefAt K mg "_law_moved_right" s_law_moved_right ["_law_d", "_law_tracks", "_law_cells", "_law_told_here"] a_law_moved_right d_law_moved_right
  a_law_told : Addr
  d_law_told : FuncData
  D_law_told : DefAt K mg "_law_told" s_law_told ["_law_style_here", "_law_rows"] a_law_told d_law_told
  a_law_row_right : Addr
  d_law_row_right : FuncData
  D_law_row_right : DefAt K mg "_law_row_right" s_law_row_right ["_law_style_here", "_law_row", "_law_told_here", "_law_strip"] a_law_row_right d_law_row_right
  a_law_like : Addr
  d_law_like : FuncData
  D_law_like : DefAt K mg "_law_like" s_law_like ["_law_told_here", "_law_many", "_law_wide"] a_law_like d_law_like
  a_law_exchanged : Addr
  d_law_exchanged : FuncData
  D_law_exchanged : DefAt K mg "_law_exchanged" s_law_exchanged ["_law_style_here", "_law_words"] a_law_exchanged d_law_exchanged
  a_law_strips_right : Addr
  d_law_strips_right : FuncData
  D_law_strips_right : DefAt K mg "_law_strips_right" s_law_strips_right ["_law_style_here", "_law_rows", "_law_told_here"] a_law_strips_right d_law_strips_right
  a_law : Addr
  d_law : FuncData
  D_law : DefAt K mg "law" s_law ["_law_script"] a_law d_law
  t_HYPHEN : Tok
  m_HYPHEN : mg "HYPHEN" = some (.str "-" t_HYPHEN)
  t_FILLER : Tok
  m_FILLER : mg "FILLER" = some (.str "_" t_FILLER)
  t_COVER : Tok
  m_COVER : mg "COVER" = some (.str "#" t_COVER)
  t_BLANK : Tok
  m_BLANK : mg "BLANK" = some (.str " " t_BLANK)
  n_ValueError : mg "ValueError" = none
  n_bool : mg "bool" = none
  n_int : mg "int" = none
  n_isinstance : mg "isinstance" = none
  n_len : mg "len" = none
  n_list : mg "list" = none
  n_max : mg "max" = none
  n_min : mg "min" = none
  n_range : mg "range" = none
  n_reversed : mg "reversed" = none
  n_sorted : mg "sorted" = none
  n_str : mg "str" = none
  n_tuple : mg "tuple" = none
  n_zip : mg "zip" = none
  c_PagesError : Addr
  C_PagesError : ClsAt K mg "PagesError" c_PagesError
  c_RecordError : Addr
  C_RecordError : ClsAt K mg "RecordError" c_RecordError
  c_LimitError : Addr
  C_LimitError : ClsAt K mg "LimitError" c_LimitError
  c_GivenError : Addr
  C_GivenError : ClsAt K mg "GivenError" c_GivenError
  c_BadText : Addr
  C_BadText : ClsAt K mg "BadText" c_BadText
  c_BadCall : Addr
  C_BadCall : ClsAt K mg "BadCall" c_BadCall
  c_Misplaced : Addr
  C_Misplaced : ClsAt K mg "Misplaced" c_Misplaced
  c_Unknown : Addr
  C_Unknown : ClsAt K mg "Unknown" c_Unknown
  c_Twice : Addr
  C_Twice : ClsAt K mg "Twice" c_Twice
  c_TooLong : Addr
  C_TooLong : ClsAt K mg "TooLong" c_TooLong
  c_TooLarge : Addr
  C_TooLarge : ClsAt K mg "TooLarge" c_TooLarge
  c_TooMany : Addr
  C_TooMany : ClsAt K mg "TooMany" c_TooMany
  c_TooWide : Addr
  C_TooWide : ClsAt K mg "TooWide" c_TooWide
  c_TooTall : Addr
  C_TooTall : ClsAt K mg "TooTall" c_TooTall
  c_BadStyle : Addr
  C_BadStyle : ClsAt K mg "BadStyle" c_BadStyle
  c_BadSecret : Addr
  C_BadSecret : ClsAt K mg "BadSecret" c_BadSecret
  c_BadEnding : Addr
  C_BadEnding : ClsAt K mg "BadEnding" c_BadEnding
  c_NoStem : Addr
  C_NoStem : ClsAt K mg "NoStem" c_NoStem
  c_Untrue : Addr
  C_Untrue : ClsAt K mg "Untrue" c_Untrue
  c_BadFile : Addr
  C_BadFile : ClsAt K mg "BadFile" c_BadFile
  c_BadStep : Addr
  C_BadStep : ClsAt K mg "BadStep" c_BadStep
  i_TooWide : Addr
  d_TooWide : FuncData
  E_TooWide : ErrAt K mg "TooWide" "TooWide.__init__" c_TooWide i_TooWide d_TooWide s_TooWide_init ["self", "part"] ["part"]
  k_TooWide_PagesError : PySem.W.kitOne K (.ref c_TooWide) (.ref c_PagesError) = some true
  k_TooWide_RecordError : PySem.W.kitOne K (.ref c_TooWide) (.ref c_RecordError) = some false
  k_TooWide_LimitError : PySem.W.kitOne K (.ref c_TooWide) (.ref c_LimitError) = some true
  k_TooWide_GivenError : PySem.W.kitOne K (.ref c_TooWide) (.ref c_GivenError) = some false
  k_TooWide_BadText : PySem.W.kitOne K (.ref c_TooWide) (.ref c_BadText) = some false
  k_TooWide_BadCall : PySem.W.kitOne K (.ref c_TooWide) (.ref c_BadCall) = some false
  k_TooWide_Misplaced : PySem.W.kitOne K (.ref c_TooWide) (.ref c_Misplaced) = some false
  k_TooWide_Unknown : PySem.W.kitOne K (.ref c_TooWide) (.ref c_Unknown) = some false
  k_TooWide_Twice : PySem.W.kitOne K (.ref c_TooWide) (.ref c_Twice) = some false
  k_TooWide_TooLong : PySem.W.kitOne K (.ref c_TooWide) (.ref c_TooLong) = some false
  k_TooWide_TooLarge : PySem.W.kitOne K (.ref c_TooWide) (.ref c_TooLarge) = some false
  k_TooWide_TooMany : PySem.W.kitOne K (.ref c_TooWide) (.ref c_TooMany) = some false
  k_TooWide_TooWide : PySem.W.kitOne K (.ref c_TooWide) (.ref c_TooWide) = some true
  k_TooWide_TooTall : PySem.W.kitOne K (.ref c_TooWide) (.ref c_TooTall) = some false
  k_TooWide_BadStyle : PySem.W.kitOne K (.ref c_TooWide) (.ref c_BadStyle) = some false
  k_TooWide_BadSecret : PySem.W.kitOne K (.ref c_TooWide) (.ref c_BadSecret) = some false
  k_TooWide_BadEnding : PySem.W.kitOne K (.ref c_TooWide) (.ref c_BadEnding) = some false
  k_TooWide_NoStem : PySem.W.kitOne K (.ref c_TooWide) (.ref c_NoStem) = some false
  k_TooWide_Untrue : PySem.W.kitOne K (.ref c_TooWide) (.ref c_Untrue) = some false
  k_TooWide_BadFile : PySem.W.kitOne K (.ref c_TooWide) (.ref c_BadFile) = some false
  k_TooWide_BadStep : PySem.W.kitOne K (.ref c_TooWide) (.ref c_BadStep) = some false
  v_TooWide : PySem.W.kitOne K (.ref c_TooWide) (.type "ValueError") = some true
  x_TooWide : PySem.W.exmOne K (.ref c_TooWide) (.ref c_PagesError) = some true
/-! ### the dice -/
/-- at d the dice, at l the script's copy -/
structure DI (d l : Addr) (H : Hp) : Prop where
  ne : l ≠ d
  sc : ∃ ns : List Int, H l = some (.lst (ns.map V.int))
  st : ∃ i b s c : Int, 0 ≤ i ∧ H d = some (.lst [.ref l, .int i, .int b, .int s, .int c])
/-- all but the dice stands -/
def Kp (d : Addr) (H H' : Hp) : Prop := ∀ b o, b ≠ d → H b = some o → H' b = some o
theorem Kp.refl (d : Addr) (H : Hp) : Kp d H H := fun _ _ _ h => h
theorem Kp.trans {d : Addr} {H H1 H2 : Hp} (a : Kp d H H1) (b : Kp d H1 H2) : Kp d H H2 := fun x o n h => b x o n (a x o n h)
theorem Kp.upd {d : Addr} {H H' : Hp} {o : HO} (a : Kp d H H') : Kp d H (upd H' d o) := fun x u n h => by
  rw [upd_ne n]; exact a x u n h
theorem Kp.new {d p : Addr} {H H' : Hp} {o : HO} (a : Kp d H H') (hp : H' p = none) : Kp d H (L2.upd H' p o) := fun x u n h => by
  have h2 := a x u n h
  rw [upd_ne (ne_of_none h2 hp)]; exact h2
theorem Kp.mut {d p : Addr} {H H' : Hp} {o : HO} (a : Kp d H H') (hp : H p = none) : Kp d H (L2.upd H' p o) := fun x u n h => by
  rw [upd_ne (ne_of_none h hp)]; exact a x u n h
theorem Kp.sq {K : PySem.W.Frag} {d a : Addr} {H H' : Hp} {xs : List V} (k : Kp d H H') (n : a ≠ d) (h : SqL K H a xs) : SqL K H' a xs := by
  rcases h with (h | ⟨o, h⟩) | h
  · exact .inl (.inl (k _ _ n h))
  · exact .inl (.inr ⟨o, k _ _ n h⟩)
  · exact .inr h
theorem DI.keep {d l : Addr} {H H' : Hp} (h : DI d l H) (e : ∀ b o, H b = some o → H' b = some o) : DI d l H' := by
  obtain ⟨n, ⟨ns, h1⟩, i, b, s, c, h0, h2⟩ := h
  exact ⟨n, ⟨ns, e _ _ h1⟩, i, b, s, c, h0, e _ _ h2⟩
theorem DI.at {d l p : Addr} {H : Hp} {o : HO} (h : DI d l H) (n1 : p ≠ d) (n2 : p ≠ l) : DI d l (upd H p o) := by
  obtain ⟨n, ⟨ns, h1⟩, i, b, s, c, h0, h2⟩ := h
  exact ⟨n, ⟨ns, by rw [upd_ne n2.symm]; exact h1⟩, i, b, s, c, h0, by rw [upd_ne n1.symm]; exact h2⟩
theorem DI.new {d l p : Addr} {H : Hp} {o : HO} (h : DI d l H) (hp : H p = none) : DI d l (upd H p o) :=
  h.keep fun b u e => by rw [upd_ne (ne_of_none e hp)]; exact e
theorem DI.nd {d l p : Addr} {H : Hp} (h : DI d l H) (hp : H p = none) : p ≠ d ∧ p ≠ l := by
  obtain ⟨n, ⟨ns, h1⟩, i, b, s, c, h0, h2⟩ := h
  exact ⟨fun e => (by rw [e, h2] at hp; cases hp), fun e => (by rw [e, h1] at hp; cases hp)⟩
theorem DI.set {d l : Addr} {H : Hp} {i b s c : Int} (h : DI d l H) (h0 : 0 ≤ i) : DI d l (upd H d (.lst [.ref l, .int i, .int b, .int s, .int c])) := by
  obtain ⟨n, ⟨ns, h1⟩, _⟩ := h
  exact ⟨n, ⟨ns, by rw [upd_ne n]; exact h1⟩, i, b, s, c, h0, upd_same⟩
section
variable {P : Program} {w : World} {K : PySem.W.Frag} {mg : Str → Option Value} {base : Heap}
/-! ### begin -/
def spBegin (K : PySem.W.Frag) : Sp := fun vs H Q _ => ∃ (a : Addr) (ns : List Int), vs = [.ref a] ∧ SqL K H a (ns.map V.int) ∧ ns.length ≤ 63 ∧
  ∀ H' d l, Same H H' → DI d l H' → Q (.ref d) H'
theorem ok_begin (T : Txt K mg) : FnOk P w K mg base CX0 1 T.a_law_begin T.d_law_begin ["_law_script"] (spBegin K) := by
  refine T.D_law_begin.F.ok sc_law_begin (fun vs H Q E h => ?_) (fun cdv A outer s H vs Q E hr h => ?_)
  · obtain ⟨a, ns, rfl, _⟩ := h
    rfl
  · obtain ⟨a, ns, rfl, hS, hl, q⟩ := h
    refine ⟨_, (pss_one (ps_ret (pe_lst (pa_cons (pe_callTy call_list_of (by rfl) T.n_list (by decide +kernel) (pa_cons (pv 0) pa_nil)) (pa_cons pe_int (pa_cons pe_int (pa_cons pe_int (pa_cons pe_int pa_nil)))))))), ?_⟩
    refine ⟨_, rfl, a, _, rfl, .inl hS, fun l nl => ?_⟩
    refine ⟨by show 5 ≤ sizeLine; decide, fun d nd => ?_⟩
    refine q _ d l (fun b o e => ?_) ?_
    · have n1 : b ≠ l := ne_of_none e nl
      have e1 : upd H l (.lst (ns.map V.int)) b = some o := by rw [upd_ne n1]; exact e
      rw [upd_ne (ne_of_none e1 nd)]
      exact e1
    · have e1 : upd H l (.lst (ns.map V.int)) l = some (.lst (ns.map V.int)) := upd_same
      have n1 : l ≠ d := ne_of_none e1 nd
      exact ⟨n1, ⟨ns, by rw [upd_ne n1]; exact e1⟩, 0, 0, 7, 0, by decide, upd_same⟩
/-! ### draw -/
def spDraw : Sp := fun vs H Q _ => ∃ (d l : Addr) (m : Int), vs = [.ref d, .int m] ∧ DI d l H ∧ m ≤ 1000000 ∧
  ∀ H' r, Kp d H H' → DI d l H' → (m < 2 → r = 0) → (2 ≤ m → 0 ≤ r ∧ r < m) → Q (.int r) H'
theorem ok_draw (T : Txt K mg) : FnOk P w K mg base CX0 1 T.a_law_draw T.d_law_draw ["_law_d", "_law_many"] spDraw := by
  refine T.D_law_draw.F.ok sc_law_draw (fun vs H Q E h => ?_) (fun cdv A outer s H vs Q E hr h => ?_)
  · obtain ⟨d, l, m, rfl, _⟩ := h
    rfl
  · obtain ⟨d, l, m, rfl, hD, hm, q⟩ := h
    refine ⟨_, (pss_cons (ps_if (pt_cmpR op_lt (pv 1) pe_int (nomark _)) (pss_one (ps_ret pe_int)) pss_nil)
      (pss_cons (ps_set (i := 2) sc_law_draw.nd rfl (.inl rfl) (pe_op op_add (pe_op op_mul (pe_ix ix_list (pv 0) pe_int (fun _ _ => rfl)) pe_int) pe_int))
      (Evl.pss_cut (ps_if (PW.pt (pw_and (pt_cmpR op_eq (pe_ix ix_list (pv 0) pe_int (fun _ _ => rfl)) pe_int (nomark _)) (pw_and1 (pt_cmpR op_lt (pe_ix ix_list (pv 0) pe_int (fun _ _ => rfl)) (pe_callB call_len_seq (by rfl) T.n_len PySem.boot_len (pa_cons (pe_ix ix_list (pv 0) pe_int (fun _ _ => rfl)) pa_nil)) (nomark _))))) (pss_cons (ps_set (i := 2) sc_law_draw.nd rfl (.inl rfl) (pe_ix ix_list (pe_ix ix_list (pv 0) pe_int (fun _ _ => rfl)) (pe_ix ix_list (pv 0) pe_int (fun _ _ => rfl)) (fun _ _ => rfl)))
      (pss_cons (ps_asg (pe_op op_add (pe_ix ix_list (pv 0) pe_int (fun _ _ => rfl)) pe_int) (pg_sub (pv 0) pe_int set_list))
      (Evl.pss_cut (ps_if (pt_cmpR op_lt (pv 2) pe_int (nomark _)) (pss_one (ps_set (i := 2) sc_law_draw.nd rfl (.inl rfl) (pe_op op_sub pe_int (pe_op op_mul pe_int (pv 2))))) pss_nil)
      (pss_one (ps_if (pt_cmpR op_ge (pv 2) pe_int (nomark _)) (pss_cons (ps_set (i := 2) sc_law_draw.nd rfl (.inl rfl) (pe_op op_and (pv 2) (pe_op op_sub (pe_op op_shl pe_int pe_int) pe_int)))
      (pss_one (ps_asg (pv 2) (pg_sub (pv 0) pe_int set_list)))) pss_nil))))) pss_nil)
      (pss_cons (ps_if (pt_cmpR op_gt (pe_ix ix_list (pv 0) pe_int (fun _ _ => rfl)) pe_int (nomark _)) (pss_cons (ps_set (i := 3) sc_law_draw.nd rfl (.inl rfl) (pe_op op_modN (pe_callTy call_int1 (by rfl) T.n_int (by decide +kernel) (pa_cons (pe_ix ix_list (pv 0) pe_int (fun _ _ => rfl)) pa_nil)) (pv 1)))
      (pss_cons (ps_asg (pe_op op_fdivN (pe_ix ix_list (pv 0) pe_int (fun _ _ => rfl)) (pv 1)) (pg_sub (pv 0) pe_int set_list))
      (pss_one (ps_ret (pv 3))))) pss_nil)
      (pss_cons (ps_asg (pe_op op_add (pe_ix ix_list (pv 0) pe_int (fun _ _ => rfl)) pe_int) (pg_sub (pv 0) pe_int set_list))
      (pss_cons (ps_asg (pe_op op_modN (pe_callTy call_int1 (by rfl) T.n_int (by decide +kernel) (pa_cons (pe_op op_add (pe_op op_add (pe_op op_mul (pe_ix ix_list (pv 0) pe_int (fun _ _ => rfl)) pe_int) (pe_op op_mul (pv 2) pe_int)) (pe_op op_mul (pe_ix ix_list (pv 0) pe_int (fun _ _ => rfl)) pe_int)) pa_nil)) pe_int) (pg_sub (pv 0) pe_int set_list))
      (pss_one (ps_ret (pe_op op_modN (pe_callTy call_int1 (by rfl) T.n_int (by decide +kernel) (pa_cons (pe_op op_modN (pe_callTy call_int1 (by rfl) T.n_int (by decide +kernel) (pa_cons (pe_op op_add (pe_op op_add (pe_op op_mul (pe_ix ix_list (pv 0) pe_int (fun _ _ => rfl)) pe_int) (pe_op op_mul (pe_ix ix_list (pv 0) pe_int (fun _ _ => rfl)) pe_int)) pe_int) pa_nil)) pe_int) pa_nil)) (pv 1)))))))))), ?_⟩
    refine ⟨_, rfl, _, _, rfl, rfl, _, rfl, ite2 (fun e => ?_) (fun e => ?_)⟩
    · have e := of_decide_eq_true e
      exact q H 0 (Kp.refl d H) hD (fun _ => rfl) (fun z => by omega)
    have hm2 : 2 ≤ m := by
      have e2 : ¬ m < 2 := fun z => e (decide_eq_true z)
      omega
    have hmN : m ≠ 0 := by omega
    have hmA : m.natAbs < 1073741824 := by omega
    have fm : ∀ z : Int, 0 ≤ z.fmod m ∧ z.fmod m < m := fun z => ⟨Int.fmod_nonneg_of_pos z (by omega), Int.fmod_lt_of_pos z (by omega)⟩
    obtain ⟨n, ⟨ns, h1⟩, i, b, s5, c, h0, h2⟩ := id hD
    -- cell = d[4] * 977 + 3
    refine ⟨_, rfl, _, _, _, _, rfl, rfl, SqL.of h2, rfl, _, _, rfl, rfl, .inr ⟨by decide, by decide⟩, _, _, rfl, rfl, ?_⟩
    refine ⟨fun σ' H' => ∃ (cell : Int) (x3 : Option V), σ' = [some (.ref d), some (.int m), some (.int cell), x3] ∧ Kp d H H' ∧ DI d l H', ?_, ?_⟩
    · -- the cell
      refine ⟨_, rfl, _, _, _, _, rfl, rfl, SqL.of h2, rfl, rfl, _, rfl, ite2 (fun e1 => ?_) (fun e1 => ?_)⟩
      · refine ⟨_, rfl, _, _, _, _, rfl, rfl, SqL.of h2, rfl, _, rfl, _, _, _, _, rfl, rfl, SqL.of h2, rfl, _, _, rfl, .inl (SqL.of h1), _, _, rfl, rfl, _, rfl, ite2 (fun e2 => ?_) (fun e2 => ?_)⟩
        · have e2 := of_decide_eq_true e2
          rw [List.length_map] at e2
          obtain ⟨j, rfl⟩ : ∃ j : Nat, i = (j : Int) := ⟨i.toNat, by omega⟩
          have hj : j < ns.length := by omega
          have gj : (ns.map V.int)[j]? = some (.int ns[j]) := by
            rw [List.getElem?_map, List.getElem?_eq_getElem hj]; rfl
          refine ⟨_, rfl, _, _, _, _, rfl, rfl, SqL.of h2, rfl, _, rfl, _, _, _, _, rfl, rfl, SqL.of h2, rfl, _, _, _, _, rfl, rfl, SqL.of h1, atI_nat gj, ?_⟩
          -- d[1] = d[1] + 1
          refine ⟨_, rfl, _, _, _, _, rfl, rfl, SqL.of h2, rfl, _, _, rfl, rfl, _, rfl, _, _, _, _, rfl, rfl, h2, rfl, ?_⟩
          have D1 := hD.set (i := (j : Int) + 1) (b := b) (s := s5) (c := c) (by omega)
          have K1 : Kp d H (upd H d (.lst [.ref l, .int ((j : Int) + 1), .int b, .int s5, .int c])) := (Kp.refl d H).upd
          refine ⟨fun σ' H' => ∃ (cell : Int) (x3 : Option V), σ' = [some (.ref d), some (.int m), some (.int cell), x3] ∧ H' = upd H d (.lst [.ref l, .int ((j : Int) + 1), .int b, .int s5, .int c]), ?_, ?_⟩
          · refine ⟨_, rfl, _, _, rfl, rfl, _, rfl, ite2 (fun _ => ?_) (fun _ => ?_)⟩
            · exact ⟨_, rfl, _, _, rfl, rfl, .inl ⟨by decide, by decide⟩, _, _, rfl, rfl, _, _, rfl, rfl⟩
            · exact ⟨_, _, rfl, rfl⟩
          · rintro σ' H' ⟨cell, x3, rfl, rfl⟩
            refine ⟨_, rfl, _, _, rfl, rfl, _, rfl, ite2 (fun _ => ?_) (fun _ => ?_)⟩
            · refine ⟨_, rfl, _, _, rfl, rfl, ⟨by decide, by decide, by decide⟩, _, _, rfl, rfl, _, _, rfl, rfl, ?_⟩
              refine ⟨_, rfl, _, rfl, _, _, _, _, rfl, rfl, upd_same, rfl, ?_⟩
              exact ⟨_, _, rfl, K1.upd, D1.set (by omega)⟩
            · exact ⟨_, _, rfl, K1, D1⟩
        · exact ⟨_, _, rfl, Kp.refl d H, hD⟩
      · exact ⟨_, _, rfl, Kp.refl d H, hD⟩
    · rintro σ' H1 ⟨cell, x3, rfl, K1, D1⟩
      obtain ⟨n, ⟨ns, h1⟩, i, b, s5, c, h0, h2⟩ := id D1
      refine ⟨_, rfl, _, _, _, _, rfl, rfl, SqL.of h2, rfl, _, _, rfl, rfl, _, rfl, ite2 (fun e1 => ?_) (fun e1 => ?_)⟩
      · refine ⟨_, rfl, _, _, _, _, rfl, rfl, SqL.of h2, rfl, .inl ⟨_, rfl, _, rfl, _, _, rfl, rfl, hmN, ?_⟩⟩
        refine ⟨_, rfl, _, _, _, _, rfl, rfl, SqL.of h2, rfl, _, rfl, _, _, rfl, rfl, ⟨hmN, hmA⟩, _, rfl, _, _, _, _, rfl, rfl, h2, rfl, ?_⟩
        exact ⟨_, rfl, q _ _ K1.upd (D1.set h0) (fun z => by omega) (fun _ => fm _)⟩
      · refine ⟨_, rfl, _, _, _, _, rfl, rfl, SqL.of h2, rfl, _, _, rfl, rfl, _, rfl, _, _, _, _, rfl, rfl, h2, rfl, ?_⟩
        refine ⟨_, rfl, _, _, _, _, rfl, rfl, SqL.of upd_same, rfl, _, _, rfl, rfl, .inr ⟨by decide, by decide⟩, _, rfl, _, _, rfl, rfl, .inr ⟨by decide, by decide⟩, _, _, rfl, rfl, _, rfl, _, _, _, _, rfl, rfl, SqL.of upd_same, rfl, _, _, rfl, rfl, .inr ⟨by decide, by decide⟩, _, _, rfl, rfl, .inl ⟨_, rfl, _, _, rfl, rfl, (by show (2147483647 : Int) ≠ 0; decide), _, rfl, _, _, _, _, rfl, rfl, upd_same, rfl, ?_⟩⟩
        refine ⟨_, rfl, _, _, _, _, rfl, rfl, SqL.of upd_same, rfl, _, _, rfl, rfl, .inr ⟨by decide, by decide⟩, _, rfl, _, _, _, _, rfl, rfl, SqL.of upd_same, rfl, _, _, rfl, rfl, .inr ⟨by decide, by decide⟩, _, _, rfl, rfl, _, _, rfl, rfl, .inl ⟨_, rfl, _, _, rfl, rfl, (by show (2147483399 : Int) ≠ 0; decide), .inl ⟨_, rfl, _, rfl, _, _, rfl, rfl, hmN, ?_⟩⟩⟩
        exact q _ _ K1.upd.upd ((D1.set h0).set h0) (fun z => by omega) (fun _ => fm _)
end
end Vf

set_option Elab.async false
set_option linter.all false
set_option maxRecDepth 100000
set_option maxHeartbeats 4000000
namespace Vf
open PySem PySem.Spec PyProof.Rows L2 TL
/-! ### the mathematics of tokens -/
def sW : Str := "abcdefghijklmnopqrstuvwxyz0123456789.,:;!?'()+=<>*/"
def sL : Str := "abcdefghijklmnopqrstuvwxyz"
def sB : Str := " \n"
def sOdd : Str := "\"#$&-ABCDEFGHIJKLMNOPQRSTUVWXYZ[\\]^_`|~"
def cW (c : Nat) : Bool := decide (c ∈ sW.cps.toList)
def cL (c : Nat) : Bool := decide (c ∈ sL.cps.toList)
def cB (c : Nat) : Bool := decide (c ∈ sB.cps.toList)
/-- the text of these signs -/
def mkS (zs : List Nat) : Str := ⟨zs.toArray⟩
def sV (zs : List Nat) : V := .str (mkS zs)
theorem mkS_cps (zs : List Nat) : (mkS zs).cps.toList = zs := rfl
theorem mkS_of (z : Str) : mkS z.cps.toList = z := rfl
theorem mkS_len (zs : List Nat) : (mkS zs).length = zs.length := by simp [mkS, Str.length]
theorem len_cps (z : Str) : z.length = z.cps.toList.length := by simp [Str.length]
theorem mkS_app (a b : List Nat) : mkS a ++ mkS b = mkS (a ++ b) := by
  have h : (mkS a ++ mkS b).cps.toList = a ++ b := by rw [Str.cps_append, Array.toList_append]; rfl
  rw [← h]
  rfl
theorem mkS_inj {a b : List Nat} (h : mkS a = mkS b) : a = b := by
  have h2 := congrArg (fun z : Str => z.cps.toList) h
  exact h2
theorem sW_list : sW.cps.toList = [97,98,99,100,101,102,103,104,105,106,107,108,109,110,111,112,113,114,115,116,117,118,119,120,121,122,48,49,50,51,52,53,54,55,56,57,46,44,58,59,33,63,39,40,41,43,61,60,62,42,47] := by decide +kernel
theorem sL_list : sL.cps.toList = [97,98,99,100,101,102,103,104,105,106,107,108,109,110,111,112,113,114,115,116,117,118,119,120,121,122] := by decide +kernel
theorem sB_list : sB.cps.toList = [32, 10] := by decide +kernel
theorem cL_W {c : Nat} (h : cL c = true) : cW c = true := by
  have h1 := of_decide_eq_true h
  refine decide_eq_true ?_
  rw [sL_list] at h1
  rw [sW_list]
  rw [show ([97,98,99,100,101,102,103,104,105,106,107,108,109,110,111,112,113,114,115,116,117,118,119,120,121,122,48,49,50,51,52,53,54,55,56,57,46,44,58,59,33,63,39,40,41,43,61,60,62,42,47] : List Nat) = [97,98,99,100,101,102,103,104,105,106,107,108,109,110,111,112,113,114,115,116,117,118,119,120,121,122] ++ [48,49,50,51,52,53,54,55,56,57,46,44,58,59,33,63,39,40,41,43,61,60,62,42,47] from rfl]
  exact List.mem_append_left _ h1
theorem cW_B {c : Nat} (h : cW c = true) : cB c = false := by
  refine decide_eq_false fun h2 => ?_
  rw [sB_list] at h2
  have h1 := of_decide_eq_true h
  rw [sW_list] at h1
  simp only [List.mem_cons, List.not_mem_nil, or_false] at h2
  rcases h2 with rfl | rfl
  · exact absurd h1 (by decide)
  · exact absurd h1 (by decide)
theorem cW_at : cW 64 = false := by
  unfold cW
  rw [sW_list]
  decide
theorem cB_at : cB 64 = false := by
  unfold cB
  rw [sB_list]
  decide
theorem cW_ne {c : Nat} (h : cW c = true) : c ≠ 64 := fun e => by
  rw [e, cW_at] at h
  cases h
theorem drop_le {α : Type} (p : α → Bool) : ∀ l : List α, (l.dropWhile p).length ≤ l.length
  | [] => Nat.le_refl _
  | c :: r => by
    rw [List.dropWhile_cons]
    split
    · exact Nat.le_trans (drop_le p r) (Nat.le_succ _)
    · exact Nat.le_refl _
/-- the tokens of a text -/
def tokF : Nat → List Nat → List (List Nat)
  | 0, _ => []
  | _ + 1, [] => []
  | n + 1, c :: r =>
    if cB c then tokF n r else if c = 64 then (c :: r.takeWhile cL) :: tokF n (r.dropWhile cL)
    else if cW c then (c :: r.takeWhile cW) :: tokF n (r.dropWhile cW) else [c] :: tokF n r
theorem tokF_more : ∀ (n m : Nat) (zs : List Nat), zs.length ≤ n → zs.length ≤ m → tokF n zs = tokF m zs
  | 0, 0, _, _, _ => rfl
  | 0, m + 1, zs, h, _ => by
    have e : zs = [] := List.length_eq_zero_iff.mp (Nat.le_zero.mp h)
    subst e
    rfl
  | n + 1, 0, zs, _, h => by
    have e : zs = [] := List.length_eq_zero_iff.mp (Nat.le_zero.mp h)
    subst e
    rfl
  | n + 1, m + 1, [], _, _ => rfl
  | n + 1, m + 1, c :: r, h1, h2 => by
    have a1 : r.length ≤ n := Nat.le_of_succ_le_succ h1
    have a2 : r.length ≤ m := Nat.le_of_succ_le_succ h2
    have d1 := drop_le cL r
    have d2 := drop_le cW r
    show (if cB c then tokF n r else if c = 64 then (c :: r.takeWhile cL) :: tokF n (r.dropWhile cL) else if cW c then (c :: r.takeWhile cW) :: tokF n (r.dropWhile cW) else [c] :: tokF n r) =
      (if cB c then tokF m r else if c = 64 then (c :: r.takeWhile cL) :: tokF m (r.dropWhile cL) else if cW c then (c :: r.takeWhile cW) :: tokF m (r.dropWhile cW) else [c] :: tokF m r)
    rw [tokF_more n m r a1 a2, tokF_more n m _ (Nat.le_trans d1 a1) (Nat.le_trans d1 a2), tokF_more n m _ (Nat.le_trans d2 a1) (Nat.le_trans d2 a2)]
def tok (zs : List Nat) : List (List Nat) := tokF zs.length zs
theorem tok_nil : tok [] = [] := rfl
theorem tok_cons (c : Nat) (r : List Nat) : tok (c :: r) = if cB c then tok r else if c = 64 then (c :: r.takeWhile cL) :: tok (r.dropWhile cL)
    else if cW c then (c :: r.takeWhile cW) :: tok (r.dropWhile cW) else [c] :: tok r := by
  show (if cB c then tokF r.length r else if c = 64 then (c :: r.takeWhile cL) :: tokF r.length (r.dropWhile cL) else if cW c then (c :: r.takeWhile cW) :: tokF r.length (r.dropWhile cW) else [c] :: tokF r.length r) = _
  rw [tokF_more r.length (r.dropWhile cL).length (r.dropWhile cL) (drop_le _ _) (Nat.le_refl _), tokF_more r.length (r.dropWhile cW).length (r.dropWhile cW) (drop_le _ _) (Nat.le_refl _)]
  rfl
/-! #### what the law's own walk has found, and how it goes on -/
def cont : Nat → List (List Nat) → List Nat → List (List Nat)
  | 1, f, r => f.dropLast ++ ((f.getLast?.getD []) ++ r.takeWhile cW) :: tok (r.dropWhile cW)
  | 2, f, r => f.dropLast ++ ((f.getLast?.getD []) ++ r.takeWhile cL) :: tok (r.dropWhile cL)
  | _, f, r => f ++ tok r
theorem cont0 (f : List (List Nat)) (r : List Nat) : cont 0 f r = f ++ tok r := rfl
theorem cont1 (g : List (List Nat)) (t r : List Nat) : cont 1 (g ++ [t]) r = g ++ (t ++ r.takeWhile cW) :: tok (r.dropWhile cW) := by
  show (g ++ [t]).dropLast ++ (((g ++ [t]).getLast?.getD []) ++ r.takeWhile cW) :: tok (r.dropWhile cW) = _
  rw [List.dropLast_concat, List.getLast?_concat]; rfl
theorem cont2 (g : List (List Nat)) (t r : List Nat) : cont 2 (g ++ [t]) r = g ++ (t ++ r.takeWhile cL) :: tok (r.dropWhile cL) := by
  show (g ++ [t]).dropLast ++ (((g ++ [t]).getLast?.getD []) ++ r.takeWhile cL) :: tok (r.dropWhile cL) = _
  rw [List.dropLast_concat, List.getLast?_concat]; rfl
/-- a sign that goes on -/
theorem cont1_on {c : Nat} (h : cW c = true) (g : List (List Nat)) (t r : List Nat) : cont 1 (g ++ [t]) (c :: r) = cont 1 (g ++ [t ++ [c]]) r := by
  rw [cont1, cont1, List.takeWhile_cons_of_pos h, List.dropWhile_cons_of_pos h, List.append_assoc]; rfl
theorem cont2_on {c : Nat} (h : cL c = true) (g : List (List Nat)) (t r : List Nat) : cont 2 (g ++ [t]) (c :: r) = cont 2 (g ++ [t ++ [c]]) r := by
  rw [cont2, cont2, List.takeWhile_cons_of_pos h, List.dropWhile_cons_of_pos h, List.append_assoc]; rfl
/-- a sign that doesn't -/
theorem cont1_off {c : Nat} (h : cW c = false) (g : List (List Nat)) (t r : List Nat) : cont 1 (g ++ [t]) (c :: r) = cont 0 (g ++ [t]) (c :: r) := by
  rw [cont1, cont0, List.takeWhile_cons_of_neg (by rw [h]; decide), List.dropWhile_cons_of_neg (by rw [h]; decide), List.append_nil, List.append_assoc]; rfl
theorem cont2_off {c : Nat} (h : cL c = false) (g : List (List Nat)) (t r : List Nat) : cont 2 (g ++ [t]) (c :: r) = cont 0 (g ++ [t]) (c :: r) := by
  rw [cont2, cont0, List.takeWhile_cons_of_neg (by rw [h]; decide), List.dropWhile_cons_of_neg (by rw [h]; decide), List.append_nil, List.append_assoc]; rfl
theorem cont_blank {c : Nat} (h : cB c = true) (f : List (List Nat)) (r : List Nat) : cont 0 f (c :: r) = cont 0 f r := by
  rw [cont0, cont0, tok_cons, if_pos h]
theorem cont_at (f : List (List Nat)) (r : List Nat) : cont 0 f (64 :: r) = cont 2 (f ++ [[64]]) r := by
  rw [cont0, cont2, tok_cons, if_neg (by rw [cB_at]; decide), if_pos rfl]; rfl
theorem cont_word {c : Nat} (h : cW c = true) (f : List (List Nat)) (r : List Nat) : cont 0 f (c :: r) = cont 1 (f ++ [[c]]) r := by
  rw [cont0, cont1, tok_cons, if_neg (by rw [cW_B h]; decide), if_neg (cW_ne h), if_pos h]; rfl
theorem cont_odd {c : Nat} (hb : cB c = false) (h : cW c = false) (ha : c ≠ 64) (f : List (List Nat)) (r : List Nat) : cont 0 f (c :: r) = cont 0 (f ++ [[c]]) r := by
  rw [cont0, cont0, tok_cons, if_neg (by rw [hb]; decide), if_neg ha, if_neg (by rw [h]; decide), List.append_assoc]; rfl
theorem cont_end1 (g : List (List Nat)) (t : List Nat) : cont 1 (g ++ [t]) [] = g ++ [t] := by
  rw [cont1]; show g ++ [t ++ []] = _; rw [List.append_nil]
theorem cont_end2 (g : List (List Nat)) (t : List Nat) : cont 2 (g ++ [t]) [] = g ++ [t] := by
  rw [cont2]; show g ++ [t ++ []] = _; rw [List.append_nil]
theorem cont_end0 (f : List (List Nat)) : cont 0 f [] = f := by
  rw [cont0, tok_nil, List.append_nil]
/-! #### tokens put together -/
/-- blanks and line feeds alone -/
def Bl (g : List Nat) : Prop := ∀ c ∈ g, cB c = true
/-- a token -/
def Tk (t : List Nat) : Prop := (∃ c, t = [c] ∧ cB c = false ∧ cW c = false ∧ c ≠ 64) ∨ (∃ r, t = 64 :: r ∧ ∀ c ∈ r, cL c = true) ∨ (t ≠ [] ∧ ∀ c ∈ t, cW c = true)
/-- the one runs on into the other -/
def runs (t u : List Nat) : Bool := if t.headD 0 = 64 then cL (u.headD 0) else cW (t.headD 0) && cW (u.headD 0)
theorem tok_gap : ∀ (g r : List Nat), Bl g → tok (g ++ r) = tok r
  | [], _, _ => rfl
  | c :: g, r, h => by
    rw [List.cons_append, tok_cons, if_pos (h c List.mem_cons_self)]
    exact tok_gap g r fun z hz => h z (List.mem_cons_of_mem _ hz)
theorem take_all {p : Nat → Bool} : ∀ (t r : List Nat), (∀ c ∈ t, p c = true) → (∀ c r', r = c :: r' → p c = false) → (t ++ r).takeWhile p = t ∧ (t ++ r).dropWhile p = r
  | [], [], _, _ => ⟨rfl, rfl⟩
  | [], c :: r, _, h => by
    have e := h c r rfl
    rw [List.nil_append, List.takeWhile_cons_of_neg (by rw [e]; decide), List.dropWhile_cons_of_neg (by rw [e]; decide)]
    exact ⟨rfl, rfl⟩
  | c :: t, r, ht, h => by
    have ⟨a, b⟩ := take_all t r (fun z hz => ht z (List.mem_cons_of_mem _ hz)) h
    rw [List.cons_append, List.takeWhile_cons_of_pos (ht c List.mem_cons_self), List.dropWhile_cons_of_pos (ht c List.mem_cons_self), a, b]
    exact ⟨rfl, rfl⟩
theorem tok_tok {t r : List Nat} (h : Tk t) (hr : r = [] ∨ runs t r = false) : tok (t ++ r) = t :: tok r := by
  rcases h with ⟨c, rfl, hb, hw, ha⟩ | ⟨u, rfl, hu⟩ | ⟨hn, hw⟩
  · show tok (c :: r) = _
    rw [tok_cons, if_neg (by rw [hb]; decide), if_neg ha, if_neg (by rw [hw]; decide)]
  · have hs : ∀ c r', r = c :: r' → cL c = false := by
      intro c r' e
      rcases hr with z | z
      · rw [z] at e; cases e
      · subst e; exact z
    have ⟨a, b⟩ := take_all u r hu hs
    rw [List.cons_append, tok_cons, if_neg (by rw [cB_at]; decide), if_pos rfl, a, b]
  · cases t with
    | nil => exact absurd rfl hn
    | cons c u =>
      have hc := hw c List.mem_cons_self
      have hs : ∀ x r', r = x :: r' → cW x = false := by
        intro x r' e
        rcases hr with z | z
        · rw [z] at e; cases e
        · subst e
          unfold runs at z
          rw [show (c :: u).headD 0 = c from rfl, if_neg (cW_ne hc), hc] at z
          exact z
      have ⟨a, b⟩ := take_all u r (fun z hz => hw z (List.mem_cons_of_mem _ hz)) hs
      rw [List.cons_append, tok_cons, if_neg (by rw [cW_B hc]; decide), if_neg (cW_ne hc), if_pos hc, a, b]
/-- tokens and the gaps behind them, put into one row -/
def mixed : List (List Nat) → List (List Nat) → List Nat
  | t :: ts, g :: gs => t ++ (g ++ mixed ts gs)
  | _, _ => []
/-- what is asked of a gap behind token k -/
def need (ts : List (List Nat)) (k : Nat) : Bool := match ts[k]?, ts[k + 1]? with
  | some t, some u => runs t u
  | _, _ => false
theorem runs_bl {t g r : List Nat} (hn : g ≠ []) (hg : Bl g) : runs t (g ++ r) = false := by
  cases g with
  | nil => exact absurd rfl hn
  | cons c g =>
    have hb := hg c List.mem_cons_self
    have hw : cW c = false := by
      cases e : cW c with
      | false => rfl
      | true => rw [cW_B e] at hb; cases hb
    have hl : cL c = false := by
      cases e : cL c with
      | false => rfl
      | true => rw [cL_W e] at hw; cases hw
    unfold runs
    rw [List.cons_append]
    show (if t.headD 0 = 64 then cL c else cW (t.headD 0) && cW c) = false
    rw [hl, hw, Bool.and_false]
    split <;> rfl
theorem runs_head {t u r : List Nat} (hu : u ≠ []) : runs t (u ++ r) = runs t u := by
  cases u with
  | nil => exact absurd rfl hu
  | cons c u => rfl
theorem Tk.ne {t : List Nat} (h : Tk t) : t ≠ [] := by
  rcases h with ⟨c, rfl, _⟩ | ⟨r, rfl, _⟩ | ⟨h, _⟩
  · exact fun e => by cases e
  · exact fun e => by cases e
  · exact h
theorem tok_mixed : ∀ (ts gs : List (List Nat)), (∀ t ∈ ts, Tk t) → gs.length = ts.length → (∀ k g, gs[k]? = some g → Bl g ∧ (need ts k = true → g ≠ [])) → tok (mixed ts gs) = ts
  | [], [], _, _, _ => rfl
  | [], _ :: _, _, h, _ => by cases h
  | _ :: _, [], _, h, _ => by cases h
  | t :: ts, g :: gs, ht, hl, hg => by
    have ih := tok_mixed ts gs (fun u hu => ht u (List.mem_cons_of_mem _ hu)) (Nat.succ.inj hl) (fun k g' e => by
      have := hg (k + 1) g' e
      exact this)
    obtain ⟨hb, hne⟩ := hg 0 g rfl
    show tok (t ++ (g ++ mixed ts gs)) = t :: ts
    rw [tok_tok (ht t List.mem_cons_self), tok_gap g _ hb, ih]
    by_cases e : g = []
    · subst e
      rw [List.nil_append]
      cases ts with
      | nil => exact .inl (by cases gs <;> rfl)
      | cons u us =>
        cases gs with
        | nil => cases hl
        | cons g2 gs2 =>
          refine .inr ?_
          show runs t (u ++ (g2 ++ mixed us gs2)) = false
          rw [runs_head (ht u (List.mem_cons_of_mem _ List.mem_cons_self)).ne]
          cases q : runs t u with
          | false => rfl
          | true => exact absurd rfl (hne q)
    · exact .inr (runs_bl e hb)
/-! #### small things -/
theorem take_succ' {α : Type} {l : List α} {i : Nat} {x : α} (h : l[i]? = some x) : l.take (i + 1) = l.take i ++ [x] := by
  rw [List.take_add_one, h]; rfl
theorem big_ok {n : Nat} (h : n ≤ 100000) : n ≤ sizeLine := Nat.le_trans h (by decide)
theorem get_sV {ts : List (List Nat)} {i : Nat} {t : List Nat} (h : ts[i]? = some t) : (ts.map sV)[i]? = some (sV t) := by
  rw [List.getElem?_map, h]; rfl
theorem drop_at {zs : List Nat} {i c : Nat} (h : zs[i]? = some c) : zs.drop i = c :: zs.drop (i + 1) := by
  have ⟨h1, h2⟩ := List.getElem?_eq_some_iff.mp h
  rw [List.drop_eq_getElem_cons h1, h2]
theorem same_mut {H H' : Hp} {p : Addr} {o : HO} (a : Same H H') (hp : H p = none) : Same H (upd H' p o) := fun x u h => by
  rw [upd_ne (ne_of_none h hp)]; exact a x u h
theorem same_upd {H H' : Hp} {p : Addr} {o : HO} (a : Same H H') (hp : H' p = none) : Same H (upd H' p o) := fun x u h => by
  have h2 := a x u h
  rw [upd_ne (ne_of_none h2 hp)]; exact h2
theorem dec_sign (c : Nat) (z : Str) (e : Nat) (hz : z = mkS [e]) : decide (V.str ⟨#[c]⟩ = V.str z) = decide (c = e) := by
  rw [hz]
  by_cases h : c = e
  · subst h; rw [decide_eq_true rfl]; exact decide_eq_true rfl
  · rw [decide_eq_false h]
    refine decide_eq_false fun q => h ?_
    have e2 : mkS [c] = mkS [e] := V.str.inj q
    have e3 := mkS_inj e2
    injection e3
theorem tf (b : Bool) : b = true ∨ b = false := by cases b <;> simp
theorem bl_of {p : Prop} [Decidable p] {b : Bool} (h : decide p = b) : V.bl (decide p) = V.bl b := congrArg V.bl h
theorem at_mk : (("@" : Str)) = mkS [64] := by decide +kernel
/-! ### texts put together -/
theorem empty_mk : (("" : Str)) = mkS [] := by decide +kernel
theorem map_sV (zss : List (List Nat)) : zss.map sV = (zss.map mkS).map V.str := by
  rw [List.map_map]; rfl
theorem sum_len : ∀ zss : List (List Nat), ((zss.map mkS).map (·.length)).sum = zss.flatten.length
  | [] => rfl
  | z :: r => by
    rw [List.map_cons, List.map_cons, List.sum_cons, sum_len r, List.flatten_cons, List.length_append, mkS_len]
theorem joinL_nil : ∀ zss : List (List Nat), joinL [] zss = zss.flatten
  | [] => rfl
  | [z] => by show z = z ++ []; rw [List.append_nil]
  | z :: y :: r => by
    show z ++ ([] ++ joinL [] (y :: r)) = z ++ (y :: r).flatten
    rw [List.nil_append, joinL_nil (y :: r)]
theorem join_mk (zss : List (List Nat)) : Txt.join ("" : Str) (zss.map mkS) = mkS zss.flatten := by
  have h : tl (Txt.join ("" : Str) (zss.map mkS)) = zss.flatten := by
    rw [join_eq, tl_join, show (zss.map mkS).map tl = zss from (by rw [List.map_map]; exact List.map_id'' (fun _ => rfl) zss), empty_mk]
    exact joinL_nil zss
  rw [← h]; rfl
theorem flat_len {B : Nat} : ∀ {zss : List (List Nat)}, (∀ z ∈ zss, z.length ≤ B) → zss.flatten.length ≤ zss.length * B
  | [], _ => Nat.zero_le _
  | z :: r, h => by
    have ih := flat_len (zss := r) fun y hy => h y (List.mem_cons_of_mem _ hy)
    have hz := h z List.mem_cons_self
    rw [List.flatten_cons, List.length_append, List.length_cons, Nat.succ_mul]
    omega
theorem flat_one : ∀ {zss : List (List Nat)}, (∀ z ∈ zss, z.length = 1) → zss.flatten.length = zss.length
  | [], _ => rfl
  | z :: r, h => by
    rw [List.flatten_cons, List.length_append, List.length_cons, flat_one fun y hy => h y (List.mem_cons_of_mem _ hy), h z List.mem_cons_self]
    omega
theorem blank_mk : ((" " : Str)) = mkS [32] := by decide +kernel
theorem feed_mk : (("\n" : Str)) = mkS [10] := by decide +kernel
end Vf

set_option Elab.async false
set_option linter.all false
set_option maxRecDepth 100000
set_option maxHeartbeats 4000000
namespace Vf
open PySem PySem.Spec PyProof.Rows L2
/-! ### tuples of signs, sorted -/
inductive SgsAre : List Value → List Nat → Prop
  | nil : SgsAre [] []
  | cons (c : Nat) (t : Tok) {vs : List Value} {cs : List Nat} : SgsAre vs cs → SgsAre (.str ⟨#[c]⟩ t :: vs) (c :: cs)
theorem SgsAre.length {vs : List Value} {cs : List Nat} (h : SgsAre vs cs) : vs.length = cs.length := by
  induction h with
  | nil => rfl
  | cons c t _ ih => rw [List.length_cons, List.length_cons, ih]
theorem sgs_of : ∀ {cs : List Nat} {us : List Value}, Vals (cs.map fun c => V.str ⟨#[c]⟩) us → SgsAre us cs
  | [], _, .nil => .nil
  | c :: cs, _, .cons r t => by
    obtain ⟨k, rfl⟩ := r
    exact .cons c k (sgs_of t)
theorem sgs_uniq {vs : List Value} {cs ds : List Nat} (h : SgsAre vs cs) (h2 : SgsAre vs ds) : cs = ds := by
  induction h generalizing ds with
  | nil => cases h2; rfl
  | cons c t _ ih =>
    cases h2 with
    | cons d t2 h2 => rw [ih h2]
def TupSg (h : Heap) (v : Value) (cs : List Nat) : Prop := ∃ a xs, v = .ref a ∧ IsTup h a xs ∧ SgsAre xs.toList cs
theorem TupSg.keeps {h h' : Heap} {v : Value} {cs : List Nat} (x : TupSg h v cs) (k : ∀ b o, h.get? b = some o → o.cls = .type "tuple" → h'.get? b = some o) : TupSg h' v cs := by
  obtain ⟨a, xs, e, ⟨o, ho, hc, hd⟩, i⟩ := x
  exact ⟨a, xs, e, ⟨o, k _ _ ho hc, hc, hd⟩, i⟩
theorem TupSg.uniq {h : Heap} {v : Value} {cs ds : List Nat} (x : TupSg h v cs) (y : TupSg h v ds) : cs = ds := by
  obtain ⟨a, xs, e, ⟨o, ho, hc, n, hd⟩, i⟩ := x
  obtain ⟨a2, ys, e2, ⟨o2, ho2, hc2, n2, hd2⟩, i2⟩ := y
  rw [e] at e2
  cases e2
  rw [ho] at ho2
  cases ho2
  rw [hd] at hd2
  injection hd2 with h1 h2
  subst h1
  exact sgs_uniq i i2
def nats (cs : List Nat) : List Int := cs.map fun c : Nat => (c : Int)
open Classical in
/-- the signs of a tuple, read off the heap -/
noncomputable def sgsOf (h : Heap) (v : Value) : List Nat := if x : ∃ cs, TupSg h v cs then x.choose else []
theorem TupSg.sgs {h : Heap} {v : Value} {cs : List Nat} (x : TupSg h v cs) : sgsOf h v = cs := by
  have y : ∃ cs, TupSg h v cs := ⟨cs, x⟩
  unfold sgsOf
  rw [dif_pos y]
  exact y.choose_spec.uniq x
section
variable {prog : Program} {w : World} {A : Around} {E : Value → Shared → Prop} {s : Shared} {Q : Bool → Shared → Prop}
theorem oneLt_sg (b : Bool) {p q : Nat} {t u : Tok} (h : Q (decide (p < q)) s) : wpAny (model prog w) A (oneLt' b (.str ⟨#[p]⟩ t) (.str ⟨#[q]⟩ u)) Q E s := by
  have e : decide ((⟨#[p]⟩ : Str).cps.toList < (⟨#[q]⟩ : Str).cps.toList) = decide (p < q) := by
    refine decide_eq_decide.mpr ?_
    show [p] < [q] ↔ p < q
    rw [List.cons_lt_cons_iff]
    constructor
    · rintro (h | ⟨_, h⟩)
      · exact h
      · exact absurd h (List.lt_irrefl _)
    · exact fun h => .inl h
  cases b with
  | true => exact oneLt_str (by rw [e]; exact h)
  | false => exact PySem.W.kat_one _ _ (PyProof.Rows.lt_str (Q := PySem.W.BoolBack Q) (by rw [e]; exact h))
theorem lex_sgs {B : Int} {b : Bool} {xs ys : List Value} {cs ds : List Nat} (i : Nat) (hx : SgsAre xs cs) (hy : SgsAre ys ds) (hl : cs.length = ds.length) (h1 : TS.Bd B (nats cs)) (h2 : TS.Bd B (nats ds))
    (h : Q (decide (TS.code B (nats cs) < TS.code B (nats ds))) s) : PySem.W.KatLex prog w A b false Q (xs.zip ys) i s := by
  induction hx generalizing ys ds i with
  | nil =>
    cases hy with
    | nil =>
      have e : decide (TS.code B (nats []) < TS.code B (nats [])) = false := decide_eq_false (Int.lt_irrefl _)
      rw [e] at h
      exact PySem.W.kat_nil h
    | cons d u hy => simp at hl
  | @cons c t xs cs hx ih =>
    cases hy with
    | nil => simp at hl
    | @cons d u ys ds hy =>
      have hl' : cs.length = ds.length := by simpa using hl
      have hl2 : (nats cs).length = (nats ds).length := by unfold nats; rw [List.length_map, List.length_map, hl']
      show PySem.W.KatLex prog w A b false Q ((Value.str ⟨#[c]⟩ t, Value.str ⟨#[d]⟩ u) :: xs.zip ys) i s
      refine PySem.W.kat_cons (wpAny_eqBool_str ?_)
      by_cases e : c = d
      · subst e
        rw [decide_eq_true rfl]
        have dd : decide (TS.code B (nats (c :: cs)) < TS.code B (nats (c :: ds))) = decide (TS.code B (nats cs) < TS.code B (nats ds)) := decide_eq_decide.mpr (TS.code_same (d := (c : Int)) hl2)
        rw [dd] at h
        exact PySem.W.kat_yes (ih (i + 1) hy hl' h1.tail h2.tail h)
      · have ne : ¬ ((⟨#[c]⟩ : Str) = ⟨#[d]⟩) := fun z => e (by injection z with z; injection z with z; injection z)
        rw [decide_eq_false ne]
        refine PySem.W.kat_no (oneLt_sg _ ?_)
        have dd : decide (TS.code B (nats (c :: cs)) < TS.code B (nats (d :: ds))) = decide (c < d) := by
          refine decide_eq_decide.mpr ⟨fun x => ?_, fun x => TS.code_lt (d := (c : Int)) (e := (d : Int)) hl2 h1.tail h2.tail (by omega)⟩
          rcases Nat.lt_trichotomy c d with y | y | y
          · exact y
          · exact absurd y e
          · have := TS.code_lt hl2.symm h2.tail h1.tail (show ((d : Nat) : Int) < (c : Int) by omega)
            have x2 : TS.code B ((c : Int) :: nats cs) < TS.code B ((d : Int) :: nats ds) := x
            omega
        rw [dd] at h
        exact h
end
def TupsSg (h : Heap) (d : Nat) (B : Int) (vs : List Value) : Prop := ∀ v, v ∈ vs → ∃ cs, TupSg h v cs ∧ cs.length = d ∧ TS.Bd B (nats cs)
theorem TupsSg.keeps {h h' : Heap} {d : Nat} {B : Int} {vs : List Value} (x : TupsSg h d B vs) (k : ∀ b o, h.get? b = some o → o.cls = .type "tuple" → h'.get? b = some o) : TupsSg h' d B vs := fun v hv =>
  let ⟨ns, t, r⟩ := x v hv; ⟨ns, t.keeps k, r⟩
theorem firsts_sg {h : Heap} {d : Nat} {B : Int} (hd : 1 ≤ d) : ∀ vs : List Value, TupsSg h d B vs → ∃ fs, PySem.W.KatTups h vs fs ∧ fs.length = vs.length ∧ ∀ f, f ∈ fs → ∃ z t, f = Value.str z t
  | [], _ => ⟨[], PySem.W.KatTups.nil, rfl, fun f hf => by simp at hf⟩
  | v :: vs, x => by
    obtain ⟨fs, k, hl, hi⟩ := firsts_sg hd vs fun u hu => x u (List.mem_cons_of_mem _ hu)
    obtain ⟨cs, ⟨a, xs, rfl, ⟨o, ho, hc, n, hdt⟩, i⟩, hn, _⟩ := x v (List.mem_cons_self ..)
    cases q : xs.toList with
    | nil =>
      rw [q] at i
      have l := i.length
      rw [List.length_nil, hn] at l
      omega
    | cons y ys =>
      rw [q] at i
      cases i with
      | cons c t i2 =>
        refine ⟨.str ⟨#[c]⟩ t :: fs, PySem.W.KatTups.cons ho hc hdt ?_ k, by simp [hl], ?_⟩
        · have z := congrArg (fun l : List Value => l[0]?) q
          simpa using z
        · intro f hf
          rcases List.mem_cons.mp hf with rfl | hf
          · exact ⟨_, t, rfl⟩
          · exact hi f hf
section
variable {prog : Program} {w : World} {A : Around} {E : Value → Shared → Prop} {s : Shared}
theorem kind_sg {d : Nat} {B : Int} {vs : List Value} (hd : 1 ≤ d) (h2 : 2 ≤ vs.length) (x : TupsSg s.heap d B vs) (r : Value → Int) (hr : ∀ v, v ∈ vs → ∀ cs, TupSg s.heap v cs → r v = TS.code B (nats cs)) (Q : SortKind → Shared → Prop)
    (h : ∀ κ, TS.Cmp prog w A s κ (pairsOf vs) r → Q κ s) : wpAny (model prog w) A (keyKind' vs.toArray) Q E s := by
  obtain ⟨fs, k, hl, hi⟩ := firsts_sg hd vs x
  refine PySem.W.kat_kind (T := Value.type "str") k (by omega) (fun f hf => ?_) rfl (h _ ?_)
  · obtain ⟨n, t, rfl⟩ := hi f hf
    exact PySem.W.Looks.of_pure rfl
  · intro p q hp hq Q' E' hQ
    rw [pairsOf_toList] at hp hq
    obtain ⟨ns, tp, lp, bp⟩ := x _ (mem_zip_self hp).2
    obtain ⟨ms, tq, lq, bq⟩ := x _ (mem_zip_self hq).2
    have ep := hr _ (mem_zip_self hp).2 _ tp
    have eq2 := hr _ (mem_zip_self hq).2 _ tq
    have hQ' : Q' (decide (TS.code B (nats ns) < TS.code B (nats ms))) s := by
      have z : decide (r p.1 < r q.1) = decide (TS.code B (nats ns) < TS.code B (nats ms)) := by rw [ep, eq2]
      rw [← z]; exact hQ
    obtain ⟨a, xs, e1, ⟨o, ho, hc, n, hdt⟩, i⟩ := tp
    obtain ⟨a', ys, e2, ⟨o', ho', hc', n', hdt'⟩, i'⟩ := tq
    rw [e1, e2]
    refine PySem.W.kat_lt ho hdt ho' hdt' ?_
    have sz : decide (xs.size < ys.size) = false := by
      have l1 := i.length
      have l2 := i'.length
      rw [Array.length_toList] at l1 l2
      exact decide_eq_false (by omega)
    rw [sz]
    exact lex_sgs 0 i i' (by omega) bp bq hQ'
/-- list.sort of a list of tuples of signs -/
theorem sort_sgs {a : Addr} {vs : List Value} {n d : Nat} {B : Int} {P : PySem.Fin → Shared → Prop} (ho : s.heap.get? a = some (seqObj "list" vs.toArray n)) (h64 : vs.length < 64) (hd : 1 ≤ d) (x : TupsSg s.heap d B vs)
    (r : Value → Int) (hr : ∀ v, v ∈ vs → ∀ cs, TupSg s.heap v cs → r v = TS.code B (nats cs))
    (h : ∀ out : Array Value, out.toList.Perm vs → out.toList.Pairwise (fun u v => r u ≤ r v) → P (.done (.ret .none)) { s with heap := sortedHeap s.heap a vs out }) :
    wpAny (model prog w) A (Builtin.«list.sort» ⟨[.ref a], []⟩) P E s := by
  have keep : ∀ b o, s.heap.get? b = some o → o.cls = .type "tuple" → (TS.midHeap s.heap a vs).get? b = some o := fun b o e hc => by
    refine TS.midHeap_old ?_ e
    rintro rfl
    rw [ho] at e
    have e' : seqObj "list" vs.toArray n = o := Option.some.inj e
    rw [← e'] at hc
    have c' : Value.type "list" = Value.type "tuple" := hc
    injection c' with c''
    exact absurd c'' (by decide)
  refine SK.plain_sort (r := r) ho h64 (fun h2 Q hQ => ?_) fun ps out h1 h2 h3 => ?_
  · refine kind_sg (s := { s with heap := TS.midHeap s.heap a vs }) hd h2 (x.keeps keep) r (fun v hv cs t => ?_) Q hQ
    obtain ⟨cs0, t0, _⟩ := x v hv
    have e : cs = cs0 := t.uniq (t0.keeps keep)
    rw [e]
    exact hr v hv cs0 t0
  · obtain ⟨p, o⟩ := TS.out_rank h1 h2 h3
    exact h out p o
end
section
variable {X : Cx}
/-- sorted(d) of a dict with fewer than 64 keys, all tuples of two signs -/
def rSortedDS : List V → Hp → VK → Prop := fun xs H Q => ∃ (a : Addr) (kvs : List (List Key × V)) (ks : List (Nat × Nat)), xs = [.ref a] ∧ Rd H a (.dT kvs) ∧ kvs.map (·.1) = ks.map (fun k => [Sum.inr ⟨#[k.1]⟩, Sum.inr ⟨#[k.2]⟩]) ∧ ks.length < 64 ∧ (∀ k ∈ ks, k.1 < 2000000 ∧ k.2 < 2000000) ∧
    ∀ (ys : List (Addr × Nat × Nat)) (p : Addr), (ys.map (·.2)).Perm ks → (ys.map (·.2)).Pairwise (fun a b => a.1 < b.1 ∨ (a.1 = b.1 ∧ a.2 ≤ b.2)) → (∀ y ∈ ys, H y.1 = some (.tup [.str ⟨#[y.2.1]⟩, .str ⟨#[y.2.2]⟩])) → H p = none → Q (.ref p) (upd H p (.lst (ys.map fun y => V.ref y.1)))
theorem perm_lift {α β : Type} {f : α → β} : ∀ {l : List α} {m : List β}, m.Perm (l.map f) → ∃ l' : List α, l'.Perm l ∧ l'.map f = m := by
  intro l m h
  generalize e : l.map f = n at h
  induction h generalizing l with
  | nil =>
    cases l with
    | nil => exact ⟨[], .nil, rfl⟩
    | cons _ _ => cases e
  | @cons x l1 l2 h ih =>
    cases l with
    | nil => cases e
    | cons y r =>
      injection e with e1 e2
      obtain ⟨l', p, q⟩ := ih e2
      exact ⟨y :: l', p.cons y, by rw [List.map_cons, q, e1]⟩
  | swap x y r =>
    match l, e with
    | a :: b :: l, e =>
      injection e with e1 e2
      injection e2 with e2 e3
      exact ⟨b :: a :: l, .swap a b l, by rw [List.map_cons, List.map_cons, e1, e2, e3]⟩
  | trans h1 h2 ih1 ih2 =>
    obtain ⟨l', p, q⟩ := ih2 e
    obtain ⟨l'', p2, q2⟩ := ih1 q
    exact ⟨l'', p2.trans p, q2⟩
theorem call_sortedDS (hcalm : X.calm = true) : CallR X (.builtin "sorted") rSortedDS := by
  intro pins s σ H xs us Q I r q
  obtain ⟨d, kvs, ks0, ex, hd, hks, h64, hbd, q⟩ := q
  subst ex
  obtain ⟨u, rfl, rx⟩ := r.one
  cases rx
  obtain ⟨z, hs, ks, pr, o, es, ep, ho, hx, hdt, he, hn⟩ := (show ObjOk X.prog X.w H s.heap d (.dT kvs) from hd.ok I.hok)
  have l1 : es.size = ks.length := size_of_entries he
  have l2 : kvs.length = ks.length := Paired.length pr
  have l3 : kvs.length = ks0.length := by
    have e := congrArg List.length hks
    rw [List.length_map, List.length_map] at e
    exact e
  have hK : IsKeys H kvs (ks.map fun x => x.2.1) := isKeys_of pr
  generalize hbs : (ks.map fun x => x.2.1) = bs at hK
  have lb : bs.length = ks0.length := by rw [← hbs, List.length_map, ← l2, l3]
  have hb : ∀ (j : Nat) (b : Addr), bs[j]? = some b → ∃ k : Nat × Nat, ks0[j]? = some k ∧ H b = some (.tup [.str ⟨#[k.1]⟩, .str ⟨#[k.2]⟩]) := by
    intro j b hj
    obtain ⟨y, hy, hyb⟩ := L2.DX.pget hK hj
    have hj2 : j < ks0.length := by rw [← lb]; exact (List.getElem?_eq_some_iff.mp hj).1
    refine ⟨ks0[j], List.getElem?_eq_getElem hj2, ?_⟩
    have e := congrArg (fun l => l[j]?) hks
    simp only [List.getElem?_map, hy, List.getElem?_eq_getElem hj2, Option.map_some] at e
    have e2 := Option.some.inj e
    rw [hyb, e2]; rfl
  have hz : ∀ y ∈ bs.zip ks0, H y.1 = some (.tup [.str ⟨#[y.2.1]⟩, .str ⟨#[y.2.2]⟩]) := by
    intro y hy
    obtain ⟨j, hj⟩ := List.mem_iff_getElem?.mp hy
    rw [List.getElem?_zip_eq_some] at hj
    obtain ⟨k, hk, e⟩ := hb j y.1 hj.1
    rw [hj.2] at hk
    have := Option.some.inj hk
    rw [e, this]
  have hzs : (bs.zip ks0).map (·.2) = ks0 := List.map_snd_zip (by omega)
  have hzf : (bs.zip ks0).map (fun y => Value.ref y.1) = bs.map Value.ref := by
    have := congrArg (List.map Value.ref) (List.map_fst_zip (l₁ := bs) (l₂ := ks0) (by omega))
    rw [List.map_map] at this
    exact this
  refine Calls.call_function_entry PyProof.Rows.kind_sorted PyProof.Rows.plain_sorted PyProof.Rows.entry_sorted (PyProof.Rows.args_sorted1 _) ?_
  unfold Builtin.«sorted»
  refine wpAny_bind (m := checkCount "sorted" 1 1 _) (wpAny_pure ?_)
  refine wpAny_bind (PySem.W.kdu_collect (A := X.A.in1) (kdl_raw hs hx hdt) (I.ok.hd hcalm) ho (by omega) fun h' tk acc kp it => ?_)
  have ea : acc.toList = ks.map fun x => Value.ref x.2.1 := by
    have hl : acc.toList.length = ks.length := by rw [Array.length_toList, it.1]; exact l1
    apply List.ext_getElem?
    intro j
    rw [List.getElem?_map]
    cases hj : acc.toList[j]? with
    | none =>
      have h1 := List.getElem?_eq_none_iff.mp hj
      rw [List.getElem?_eq_none (by omega)]
      all_goals rfl
    | some v =>
      obtain ⟨en, hen, hv⟩ := it.2 j v (by rw [← Array.getElem?_toList]; exact hj)
      have qe := entry_at he j
      rw [hen] at qe
      cases hb : ks[j]? with
      | none =>
        rw [hb] at qe
        exact nomatch (show some en = none from qe)
      | some b =>
        rw [hb] at qe
        have e2 : en = entryOfKey (tupleKind (mixKind X.prog X.w)) b := Option.some.inj qe
        rw [hv, e2]
        all_goals rfl
  have eb : acc.toList = (bs.zip ks0).map fun y => Value.ref y.1 := by rw [ea, hzf, ← hbs, List.map_map]; all_goals rfl
  have lz : (bs.zip ks0).length = ks0.length := by rw [List.length_zip]; omega
  have I1 : Inv X pins σ H { s with heap := h', toks := tk } := I.kept kp
  have tsg : ∀ y ∈ bs.zip ks0, TupSg h' (.ref y.1) [y.2.1, y.2.2] := by
    intro y hy
    obtain ⟨its, rv, ht, _⟩ := I1.tuple (.inl (.inl (hz y hy)))
    exact ⟨y.1, its.toArray, rfl, ht, by simpa using sgs_of (cs := [y.2.1, y.2.2]) rv⟩
  have bd : ∀ y ∈ bs.zip ks0, y.2.1 < 2000000 ∧ y.2.2 < 2000000 := fun y hy => hbd y.2 (by rw [← hzs]; exact List.mem_map.mpr ⟨y, hy, rfl⟩)
  rw [eb]
  refine wpAny_bind (wpAny_newList ?_ (by rw [List.length_map, lz, sizeLine_eq]; omega))
  have hoL : (h'.push (seqObj "list" ((bs.zip ks0).map fun y => Value.ref y.1).toArray 0)).get? h'.objs.size = some (seqObj "list" ((bs.zip ks0).map fun y => Value.ref y.1).toArray 0) := Heap.get?_push_size _ rfl
  show wpAny _ _ _ _ _ { s with heap := h'.push (seqObj "list" ((bs.zip ks0).map fun y => Value.ref y.1).toArray 0), toks := tk }
  have keep : ∀ b o, h'.get? b = some o → o.cls = .type "tuple" → (h'.push (seqObj "list" ((bs.zip ks0).map fun y => Value.ref y.1).toArray 0)).get? b = some o := fun b o e _ => Heap.get?_push_of_some _ e
  have hsg : ∀ v ∈ (bs.zip ks0).map (fun y => Value.ref y.1), ∃ cs, TupSg h' v cs ∧ cs.length = 2 ∧ TS.Bd 2000000 (nats cs) := by
    intro v hv
    obtain ⟨y, hy, rfl⟩ := List.mem_map.mp hv
    refine ⟨_, tsg y hy, rfl, fun m hm => ?_⟩
    have b := bd y hy
    have hm : m ∈ [((y.2.1 : Nat) : Int), ((y.2.2 : Nat) : Int)] := hm
    simp only [List.mem_cons, List.not_mem_nil, or_false] at hm
    rcases hm with rfl | rfl <;> omega
  refine wpAny_bind (wpAny_holding (wpAny_call_entry PyProof.Rows.slot_list_sort ⟨_, hoL, rfl⟩ PyProof.Rows.entry_list_sort
    (sort_sgs (s := { s with heap := h'.push (seqObj "list" ((bs.zip ks0).map fun y => Value.ref y.1).toArray 0), toks := tk }) (d := 2) (B := 2000000) hoL (by rw [List.length_map, lz]; exact h64) (by decide)
      (fun v hv => by obtain ⟨cs, t, r⟩ := hsg v hv; exact ⟨cs, t.keeps keep, r⟩) (fun v => TS.code 2000000 (nats (sgsOf h' v))) (fun v hv cs t => by
        obtain ⟨cs0, t0, _⟩ := hsg v hv
        have e : cs = cs0 := t.uniq (t0.keeps keep)
        rw [e]
        show TS.code 2000000 (nats (sgsOf h' v)) = _
        rw [t0.sgs]) fun out g1 g2 => ⟨_, rfl, ?_⟩)
    (PyProof.Rows.args_list_sort _)))
  obtain ⟨ys, p1, p2⟩ := perm_lift g1
  have ym : ∀ y ∈ ys, y ∈ bs.zip ks0 := fun y hy => p1.mem_iff.mp hy
  obtain ⟨e', he'⟩ := PyProof.Rows.sortedHeap_at (vs := (bs.zip ks0).map fun y => Value.ref y.1) (out := out) hoL
  have hlen : (ys.map fun y => V.ref y.1).length ≤ sizeLine := by
    rw [List.length_map, p1.length_eq, lz]
    exact Nat.le_trans (Nat.le_of_lt h64) (by decide)
  have vr : ∀ l : List (Addr × Nat × Nat), Vals (l.map fun y => V.ref y.1) (l.map fun y => Value.ref y.1) := fun l => by
    induction l with
    | nil => exact .nil
    | cons y r ih => exact .cons rfl ih
  refine wpAny_pure ⟨_, rfl, .ref h'.objs.size, upd H h'.objs.size (.lst (ys.map fun y => V.ref y.1)), I1.laid (t' := tk) (fun b u e => ?_) (Nat.le_refl _)
    (show ObjOk X.prog X.w _ _ _ (.lst (ys.map fun y => V.ref y.1)) from ⟨hlen, out.toList, e', by rw [← p2]; exact vr ys, by rw [Array.toArray_toList]; exact he'⟩), rfl, q ys _ ?_ ?_ (fun y hy => hz y (ym y hy)) (I1.hok.fresh (Nat.le_refl _))⟩
  · have hb : b < h'.objs.size := Heap.lt_size e
    rw [PyProof.Rows.sortedHeap_old (Nat.ne_of_lt hb) (by rw [size_push']; exact Nat.lt_succ_of_lt hb)]
    exact Heap.get?_push_of_some _ e
  · rw [← hzs]; exact p1.map _
  · rw [← p2, List.pairwise_map] at g2
    rw [List.pairwise_map]
    refine List.Pairwise.imp_of_mem (fun {x y} hx hy h => ?_) g2
    rw [(tsg x (ym x hx)).sgs, (tsg y (ym y hy)).sgs] at h
    have b1 := bd x (ym x hx)
    have b2 := bd y (ym y hy)
    have h : ((x.2.1 : Nat) : Int) * 2000000 ^ 1 + (((x.2.2 : Nat) : Int) * 2000000 ^ 0 + 0) ≤ ((y.2.1 : Nat) : Int) * 2000000 ^ 1 + (((y.2.2 : Nat) : Int) * 2000000 ^ 0 + 0) := h
    omega
end

/-! ### t < u of tuples of texts -/
def lexS : List Str → List Str → Bool
  | [], [] => false
  | [], _ :: _ => true
  | _ :: _, [] => false
  | x :: xs, y :: ys => if x = y then lexS xs ys else decide (x.cps.toList < y.cps.toList)
section
open PySem.SeqAt
open PySem.AutoSeq1 (wpAny_loadPart')
open PySem.MeetsSeq PySem.MeetsSeq2 PySem.MeetsSeq3
theorem tuple_lt_strs (l b : Addr) (items items2 : Array Value) (n n2 : Nat) (dd dd2 : Option Addr) (sl sl2 : Array (Option Value)) (ns ms : List Str) (hi : StrsAre items.toList ns) (hj : StrsAre items2.toList ms) :
    Meets (Builtin.«tuple.__lt__» ⟨[.ref l, .ref b], []⟩)
      (fun _ R s => s.heap.get? l = some { cls := .type "tuple", dict := dd, data := .seq items n, slots := sl } ∧ s.heap.get? b = some { cls := .type "tuple", dict := dd2, data := .seq items2 n2, slots := sl2 } ∧
        R (.ok (.ret (.bool (lexS ns ms)))) s) :=
  .of_wp fun prog w A R s h => by
    obtain ⟨hp, g, d, tk, os⟩ := s; obtain ⟨hl, hb, h⟩ := h
    have f2 := AutoSeq1.sub_tuple_tuple
    have z1 : items.size = ns.length := by rw [← hi.length]; simp
    have z2 : items2.size = ms.length := by rw [← hj.length]; simp
    wp_walk using wpAny_loadPart' hl, wpAny_loadPart' hb, wpAny_forIn_list _ (fun rest b s' => b.1 = none ∧ s' = ⟨hp, g, d, tk, os⟩ ∧ ∃ (vs ws : List Value) (ns' ms' : List Str), rest = vs.zip ws ∧
      StrsAre vs ns' ∧ StrsAre ws ms' ∧ ns'.length + items2.size = ms'.length + items.size ∧ R (.ok (.ret (.bool (lexS ns' ms')))) ⟨hp, g, d, tk, os⟩) _
    case turn =>
      rintro ⟨y, x⟩ rest b s' ⟨hb', rfl, vs, ws, ns', ms', hz, hvi, hwi, hlen, hR⟩
      cases hvi with
      | nil => rw [List.zip_nil_left] at hz; cases hz
      | cons a t hvi' =>
        cases hwi with
        | nil => rw [List.zip_nil_right] at hz; cases hz
        | cons c u hwi' =>
          rw [List.zip_cons_cons] at hz
          injection hz with hyx hrest
          injection hyx with hy hx
          subst hy hx
          have e0 : ∀ p q : List Str, lexS (a :: p) (c :: q) = if a = c then lexS p q else decide (a.cps.toList < c.cps.toList) := fun _ _ => rfl
          rw [e0] at hR
          simp only [List.length_cons] at hlen
          have he := SeqAt.EqAt.str_str (A := A.in1) (s := ⟨hp, g, d, tk, os⟩) a t c u
          by_cases e : a = c
          · rw [show (a == c) = true from beq_iff_eq.mpr e] at he
            refine wpAny_bind (he prog w _ _ ?_)
            rw [if_pos e] at hR
            wp_walk
            exact ⟨rfl, rfl, _, _, _, _, hrest, hvi', hwi', by omega, hR⟩
          · rw [show (a == c) = false from beq_eq_false_iff_ne.mpr e] at he
            refine wpAny_bind (he prog w _ _ ?_)
            rw [if_neg e] at hR
            have hri := DT.rcLt_str A.in1 ⟨hp, g, d, tk, os⟩ a t c u prog w
            wp_walk using hri
            exact ⟨_, rfl, by simpa using hR⟩
    case fin =>
      rintro ⟨b1, b2⟩ s' ⟨hb', rfl, vs, ws, ns', ms', hz, hvi, hwi, hlen, hR⟩
      simp only at hb'
      subst hb'
      have hv : lexS ns' ms' = decide (items.size < items2.size) := by
        cases hvi with
        | nil =>
          cases hwi with
          | nil =>
            simp only [List.length_nil] at hlen
            exact (decide_eq_false (by omega)).symm
          | cons c u hw =>
            simp only [List.length_nil, List.length_cons] at hlen
            exact (decide_eq_true (by omega)).symm
        | cons a t hv =>
          cases hwi with
          | nil =>
            simp only [List.length_nil, List.length_cons] at hlen
            exact (decide_eq_false (by omega)).symm
          | cons c u hw =>
            rw [List.zip_cons_cons] at hz
            cases hz
      rw [hv] at hR
      wp_walk
      exact ⟨_, rfl, by simpa [Builtin.Tuple.tupleCompareSizes] using hR⟩
    case h =>
      exact ⟨rfl, rfl, items.toList, items2.toList, ns, ms, rfl, hi, hj, by omega, h⟩
end
section
variable {prog : Program} {w : World} {A : Around} {E : Value → Shared → Prop} {s : Shared}
theorem lt_tupStrs {l b : Addr} {items items2 : Array Value} {ns ms : List Str} {Q : Value → Shared → Prop} (hl : IsTup s.heap l items) (hb : IsTup s.heap b items2) (hi : StrsAre items.toList ns) (hj : StrsAre items2.toList ms)
    (hu : A.units < cLine) (h : Q (.bool (lexS ns ms)) s) : wpAny (model prog w) A (compareOp .Lt (.ref l) (.ref b)) Q E s := by
  obtain ⟨⟨cls, dd, data, sl⟩, ho, hc, n, hd⟩ := id hl
  obtain ⟨⟨cls2, dd2, data2, sl2⟩, ho2, hc2, n2, hd2⟩ := id hb
  simp only at hc hd hc2 hd2
  subst hc hd hc2 hd2
  exact richCompare_meets_room (op := .Lt) ⟨_, ho, rfl⟩ ⟨_, ho2, rfl⟩ PySem.F.slot_tuple_lt PySem.F.entry_tuple_lt (PySem.F.args_tuple_lt_2 _ _) (tuple_lt_strs l b items items2 n n2 dd dd2 sl sl2 ns ms hi hj)
    ⟨ho, ho2, show Value.bool (lexS ns ms) ≠ Value.notImplemented ∧ Q (.bool (lexS ns ms)) s from ⟨(fun x => nomatch x), h⟩⟩ hu
end
theorem strsAre_of : ∀ {ns : List Str} {us : List Value}, Vals (ns.map V.str) us → StrsAre us ns
  | [], _, .nil => .nil
  | c :: cs, _, .cons r t => by
    obtain ⟨k, rfl⟩ := r
    exact .cons c k (strsAre_of t)
def rLtS (K : PySem.W.Frag) : R2 := fun x y H Q => ∃ (a b : Addr) (ns ms : List Str), x = .ref a ∧ y = .ref b ∧ SqT K H a (ns.map V.str) ∧ SqT K H b (ms.map V.str) ∧ Q (.bl (lexS ns ms)) H
theorem op_ltS {X : Cx} (hu : X.A.units < cLine) : OpR X (compareOp .Lt) (rLtS X.K) := by
  intro pins s σ H x y v u Q I rx ry h
  obtain ⟨a, b, ns, ms, rfl, rfl, ha, hb, q⟩ := h
  cases rx
  cases ry
  obtain ⟨its, r1, p1, _⟩ := I.tuple ha
  obtain ⟨its2, r2, p2, _⟩ := I.tuple hb
  exact lt_tupStrs p1 p2 (by simpa using strsAre_of r1) (by simpa using strsAre_of r2) hu ⟨.bl (lexS ns ms), H, I, rfl, q⟩
end Vf

set_option Elab.async false
set_option linter.all false
set_option maxRecDepth 100000
set_option maxHeartbeats 4000000
namespace Vf
open PySem PySem.Spec PyProof.Rows L2 TL
/-! ### styles, pieces, shapes: the mathematics -/
theorem at_map {α β : Type} {f : α → β} {l : List α} {i : Nat} {y : β} (h : (l.map f)[i]? = some y) : ∃ x, l[i]? = some x ∧ f x = y := by
  rw [List.getElem?_map] at h
  cases e : l[i]? with
  | none => rw [e] at h; cases h
  | some x => rw [e] at h; exact ⟨x, rfl, Option.some.inj h⟩
theorem drop_y {α : Type} {l : List α} {i : Nat} {x : α} (h : l[i]? = some x) : l.drop i = x :: l.drop (i + 1) := by
  have ⟨h1, h2⟩ := List.getElem?_eq_some_iff.mp h
  rw [List.drop_eq_getElem_cons h1, h2]
theorem lt_s {n : Nat} (h : n < 100000) : n < sizeLine := Nat.lt_of_lt_of_le h (by decide)
def sg1 (c : Nat) : Str := ⟨#[c]⟩
def sgn (c : Nat) : V := sV [c]
def look {κ β : Type} [DecidableEq κ] (L : List (κ × β)) (k : κ) : Option β := (L.find? fun r => decide (r.1 = k)).map (·.2)
theorem look_nil {κ β : Type} [DecidableEq κ] (k : κ) : look ([] : List (κ × β)) k = none := rfl
theorem look_hit {κ β : Type} [DecidableEq κ] {r : κ × β} {L : List (κ × β)} : look (r :: L) r.1 = some r.2 := by
  unfold look
  rw [List.find?_cons_of_pos (by simp)]; rfl
theorem look_miss {κ β : Type} [DecidableEq κ] {r : κ × β} {L : List (κ × β)} {k : κ} (h : r.1 ≠ k) : look (r :: L) k = look L k := by
  unfold look
  rw [List.find?_cons_of_neg (by simpa using h)]
theorem look_none {κ β : Type} [DecidableEq κ] {L : List (κ × β)} {k : κ} (h : ∀ r ∈ L, r.1 ≠ k) : look L k = none := by
  induction L with
  | nil => rfl
  | cons r L ih => rw [look_miss (h r List.mem_cons_self)]; exact ih fun x hx => h x (List.mem_cons_of_mem _ hx)
theorem look_mem {κ β : Type} [DecidableEq κ] {L : List (κ × β)} {k : κ} {x : β} (h : look L k = some x) : (k, x) ∈ L := by
  induction L with
  | nil => cases h
  | cons r L ih =>
    by_cases e : r.1 = k
    · subst e
      rw [look_hit] at h
      have : r.2 = x := Option.some.inj h
      subst this
      exact List.mem_cons_self
    · rw [look_miss e] at h
      exact List.mem_cons_of_mem _ (ih h)
theorem look_map {κ κ' β β' : Type} [DecidableEq κ] [DecidableEq κ'] {f : κ → κ'} {g : β → β'} (hf : ∀ a b, f a = f b → a = b) (L : List (κ × β)) (k : κ) : look (L.map fun r => (f r.1, g r.2)) (f k) = (look L k).map g := by
  induction L with
  | nil => rfl
  | cons r L ih =>
    by_cases e : r.1 = k
    · subst e
      rw [look_hit, List.map_cons]
      exact look_hit (r := (f r.1, g r.2))
    · rw [look_miss e, List.map_cons, look_miss (r := (f r.1, g r.2)) (fun z => e (hf _ _ z)), ih]
theorem look_at {κ β : Type} [DecidableEq κ] {L : List (κ × β)} {i : Nat} {r : κ × β} (h : L[i]? = some r) (hb : ∀ (j : Nat) q, j < i → L[j]? = some q → q.1 ≠ r.1) : look L r.1 = some r.2 := by
  induction L generalizing i with
  | nil => simp at h
  | cons q L ih =>
    cases i with
    | zero =>
      have h : q = r := by simpa using h
      subst h
      exact look_hit
    | succ i =>
      rw [look_miss (hb 0 q (Nat.succ_pos _) rfl)]
      exact ih (i := i) (by simpa using h) fun j q hj hq => hb (j + 1) q (Nat.succ_lt_succ hj) (by simpa using hq)
def lexN : List Nat → List Nat → Bool
  | [], [] => false
  | [], _ :: _ => true
  | _ :: _, [] => false
  | x :: xs, y :: ys => if x = y then lexN xs ys else decide (x < y)
theorem lexN_irr : ∀ k : List Nat, lexN k k = false
  | [] => rfl
  | x :: xs => by
    show (if x = x then _ else _) = false
    rw [if_pos rfl]; exact lexN_irr xs
theorem lexN_ne {a b : List Nat} (h : lexN a b = true) : a ≠ b := fun e => by rw [e, lexN_irr] at h; cases h
theorem lexN_trans : ∀ {a b c : List Nat}, lexN a b = true → lexN b c = true → lexN a c = true
  | [], [], _, h, _ => by cases h
  | [], _ :: _, [], _, h => by cases h
  | [], _ :: _, _ :: _, _, _ => rfl
  | _ :: _, [], _, h, _ => by cases h
  | _ :: _, _ :: _, [], _, h => by cases h
  | x :: xs, y :: ys, z :: zs, h1, h2 => by
    have h1 : (if x = y then lexN xs ys else decide (x < y)) = true := h1
    have h2 : (if y = z then lexN ys zs else decide (y < z)) = true := h2
    show (if x = z then lexN xs zs else decide (x < z)) = true
    by_cases e1 : x = y
    · rw [if_pos e1] at h1
      by_cases e2 : y = z
      · rw [if_pos e2] at h2
        rw [if_pos (e1.trans e2)]; exact lexN_trans h1 h2
      · rw [if_neg e2] at h2
        rw [if_neg (fun e => e2 (e1.symm.trans e)), e1]; exact h2
    · rw [if_neg e1] at h1
      have l1 := of_decide_eq_true h1
      by_cases e2 : y = z
      · rw [if_neg (fun e => e1 (e.trans e2.symm)), ← e2]; exact h1
      · rw [if_neg e2] at h2
        have l2 := of_decide_eq_true h2
        rw [if_neg (by omega)]
        exact decide_eq_true (by omega)
theorem lexN_total : ∀ {a b : List Nat}, a ≠ b → lexN a b = true ∨ lexN b a = true
  | [], [], h => absurd rfl h
  | [], _ :: _, _ => .inl rfl
  | _ :: _, [], _ => .inr rfl
  | x :: xs, y :: ys, h => by
    show (if x = y then lexN xs ys else decide (x < y)) = true ∨ (if y = x then lexN ys xs else decide (y < x)) = true
    by_cases e : x = y
    · rw [if_pos e, if_pos e.symm]
      exact lexN_total fun z => h (by rw [e, z])
    · rw [if_neg e, if_neg (Ne.symm e)]
      rcases Nat.lt_trichotomy x y with l | l | l
      · exact .inl (decide_eq_true l)
      · exact absurd l e
      · exact .inr (decide_eq_true l)
theorem lexS_map : ∀ a b : List Nat, lexS (a.map sg1) (b.map sg1) = lexN a b
  | [], [] => rfl
  | [], _ :: _ => rfl
  | _ :: _, [] => rfl
  | x :: xs, y :: ys => by
    show (if sg1 x = sg1 y then lexS (xs.map sg1) (ys.map sg1) else decide ((sg1 x).cps.toList < (sg1 y).cps.toList)) = if x = y then lexN xs ys else decide (x < y)
    have e1 : sg1 x = sg1 y ↔ x = y := ⟨fun z => by have := congrArg (fun t : Str => t.cps.toList) z; exact (List.cons.inj this).1, fun z => by rw [z]⟩
    by_cases e : x = y
    · rw [if_pos (e1.mpr e), if_pos e, lexS_map xs ys]
    · rw [if_neg (fun z => e (e1.mp z)), if_neg e]
      refine decide_eq_decide.mpr ?_
      show [x] < [y] ↔ x < y
      rw [List.cons_lt_cons_iff]
      constructor
      · rintro (h | ⟨_, h⟩)
        · exact h
        · exact absurd h (List.lt_irrefl _)
      · exact fun h => .inl h
/-- rows by strictly ascending keys -/
def Asc {β : Type} (L : List (List Nat × β)) : Prop := L.Pairwise fun p q => lexN p.1 q.1 = true
theorem Asc.lt {β : Type} {L : List (List Nat × β)} (h : Asc L) {i j : Nat} {p q : List Nat × β} (hp : L[i]? = some p) (hq : L[j]? = some q) (hij : i < j) : lexN p.1 q.1 = true := by
  obtain ⟨p1, e1⟩ := List.getElem?_eq_some_iff.mp hp
  obtain ⟨p2, e2⟩ := List.getElem?_eq_some_iff.mp hq
  have := List.pairwise_iff_getElem.mp h i j p1 p2 hij
  rw [e1, e2] at this
  exact this
structure Sty where
  m : Int
  dp : Int
  cl : Int
  W : List (Nat × Nat)
  C : List ((Nat × Nat) × Nat)
  B : List ((Nat × Nat) × Nat)
def natV (w : Nat) : V := .int (w : Int)
def rowsW (W : List (Nat × Nat)) : List (List Nat × V) := W.map fun r => ([r.1], natV r.2)
def rows2 (C : List ((Nat × Nat) × Nat)) : List (List Nat × V) := C.map fun r => ([r.1.1, r.1.2], natV r.2)
def wOf (W : List (Nat × Nat)) (c : Nat) : Nat := (look W c).getD 1
def cutOf (C : List ((Nat × Nat) × Nat)) (a b : Nat) : Nat := (look C (a, b)).getD 0
structure StyOk (S : Sty) : Prop where
  sw : Asc (rowsW S.W)
  sc : Asc (rows2 S.C)
  sb : Asc (rows2 S.B)
  lw : S.W.length ≤ 100
  lc : S.C.length ≤ 100
  lb : S.B.length ≤ 100
  w3 : ∀ r ∈ S.W, 1 ≤ r.2 ∧ r.2 ≤ 3
  uw : ∀ r ∈ rowsW S.W, ∀ c ∈ r.1, c < 1114112
  uc : ∀ r ∈ rows2 S.C, ∀ c ∈ r.1, c < 1114112
  ub : ∀ r ∈ rows2 S.B, ∀ c ∈ r.1, c < 1114112
  cw : ∀ r ∈ S.C, r.2 < wOf S.W r.1.1
theorem look_rowsW (W : List (Nat × Nat)) (c : Nat) : look (rowsW W) [c] = (look W c).map natV :=
  look_map (f := fun c : Nat => [c]) (g := natV) (fun a b e => (List.cons.inj e).1) W c
theorem look_rows2 (C : List ((Nat × Nat) × Nat)) (a b : Nat) : look (rows2 C) [a, b] = (look C (a, b)).map natV :=
  look_map (f := fun k : Nat × Nat => [k.1, k.2]) (g := natV) (fun a b e => by
    have e1 := List.cons.inj e
    have e2 := List.cons.inj e1.2
    exact Prod.ext e1.1 e2.1) C (a, b)
theorem wOf_bd {S : Sty} (h : StyOk S) (c : Nat) : 1 ≤ wOf S.W c ∧ wOf S.W c ≤ 3 := by
  unfold wOf
  cases e : look S.W c with
  | none => exact ⟨Nat.le_refl _, by decide⟩
  | some w => exact h.w3 _ (look_mem e)
theorem cut_lt {S : Sty} (h : StyOk S) (a b : Nat) : cutOf S.C a b < wOf S.W a := by
  unfold cutOf
  cases e : look S.C (a, b) with
  | none => exact (wOf_bd h a).1
  | some w => exact h.cw _ (look_mem e)
/-- the width of the sign at k in a piece that ends ahead of j -/
def wAt (S : Sty) (zs : List Nat) (j k : Nat) : Nat := if k + 1 < j then wOf S.W (zs.getD k 0) - cutOf S.C (zs.getD k 0) (zs.getD (k + 1) 0) else wOf S.W (zs.getD k 0)
theorem wAt_bd {S : Sty} (h : StyOk S) (zs : List Nat) (j k : Nat) : 1 ≤ wAt S zs j k ∧ wAt S zs j k ≤ 3 := by
  unfold wAt
  have a := wOf_bd h (zs.getD k 0)
  have b := cut_lt h (zs.getD k 0) (zs.getD (k + 1) 0)
  by_cases c : k + 1 < j
  · rw [if_pos c]; omega
  · rw [if_neg c]; exact a
def pieceW (S : Sty) (zs : List Nat) (i j : Nat) : Nat := ((List.range' i (j - i)).map (wAt S zs j)).sum + if j < zs.length then 1 else 0
def pieceN (S : Sty) (zs : List Nat) (i j : Nat) : List Nat := (List.range' i (j - i)).flatMap (fun k => zs.getD k 0 :: List.replicate (wAt S zs j k - 1) 95) ++ if j < zs.length then [45] else []
theorem pieceN_len {S : Sty} (h : StyOk S) (zs : List Nat) (i j : Nat) : (pieceN S zs i j).length = pieceW S zs i j := by
  unfold pieceN pieceW
  rw [List.length_append]
  congr 1
  · induction (List.range' i (j - i)) with
    | nil => rfl
    | cons k r ih =>
      rw [List.flatMap_cons, List.length_append, ih, List.map_cons, List.sum_cons, List.length_cons, List.length_replicate]
      have := (wAt_bd h zs j k).1
      omega
  · by_cases c : j < zs.length
    · rw [if_pos c, if_pos c]; rfl
    · rw [if_neg c, if_neg c]; rfl
/-- what stands ahead of a place, as parts of a longer piece -/
def ahead (S : Sty) (zs : List Nat) : Nat → Int
  | 0 => 0
  | t + 1 => ahead S zs t + ((wOf S.W (zs.getD t 0) : Int) - (cutOf S.C (zs.getD t 0) (zs.getD (t + 1) 0) : Int))
theorem inner_sum {S : Sty} (h : StyOk S) (zs : List Nat) (i j : Nat) : ∀ n, i + n < j → ((((List.range' i n).map (wAt S zs j)).sum : Nat) : Int) = ahead S zs (i + n) - ahead S zs i
  | 0, _ => by rw [Nat.add_zero]; show (0 : Int) = _; omega
  | n + 1, hn => by
    have ih := inner_sum h zs i j n (by omega)
    rw [List.range'_1_concat, List.map_append, List.sum_append]
    have e : (wAt S zs j (i + n) : Int) = (wOf S.W (zs.getD (i + n) 0) : Int) - (cutOf S.C (zs.getD (i + n) 0) (zs.getD (i + n + 1) 0) : Int) := by
      unfold wAt
      rw [if_pos (by omega)]
      have := cut_lt h (zs.getD (i + n) 0) (zs.getD (i + n + 1) 0)
      omega
    have e2 : ahead S zs (i + (n + 1)) = ahead S zs (i + n) + ((wOf S.W (zs.getD (i + n) 0) : Int) - (cutOf S.C (zs.getD (i + n) 0) (zs.getD (i + n + 1) 0) : Int)) := rfl
    rw [e2, ← e]
    have e3 : (List.map (wAt S zs j) [i + n]).sum = wAt S zs j (i + n) := by simp
    rw [e3, Int.natCast_add, ih]
    omega
theorem pieceW_eq {S : Sty} (h : StyOk S) (zs : List Nat) {i j : Nat} (hij : i < j) : ((pieceW S zs i j : Nat) : Int) = ahead S zs (j - 1) - ahead S zs i + (wOf S.W (zs.getD (j - 1) 0) : Int) + (if j < zs.length then 1 else 0) := by
  unfold pieceW
  have e : j - i = (j - 1 - i) + 1 := by omega
  rw [e, List.range'_1_concat, List.map_append, List.sum_append]
  have e0 : i + (j - 1 - i) = j - 1 := by omega
  rw [e0]
  have e3 : (List.map (wAt S zs j) [j - 1]).sum = wAt S zs j (j - 1) := by simp
  have e4 : wAt S zs j (j - 1) = wOf S.W (zs.getD (j - 1) 0) := by
    unfold wAt; rw [if_neg (by omega)]
  have ih := inner_sum h zs i j (j - 1 - i) (by omega)
  rw [e0] at ih
  rw [e3, e4, Int.natCast_add, Int.natCast_add, ih]
  by_cases c : j < zs.length
  · rw [if_pos c, if_pos c]; rfl
  · rw [if_neg c, if_neg c]; rfl
/-- a piece between two partings, from both pieces beside and the whole -/
theorem pieceW_mid {S : Sty} (h : StyOk S) {zs : List Nat} {i j : Nat} (hij : i < j) (hj : j < zs.length) (hi : 0 < i) :
    ((pieceW S zs i zs.length : Nat) : Int) + ((pieceW S zs 0 j : Nat) : Int) - ((pieceW S zs 0 zs.length : Nat) : Int) = ((pieceW S zs i j : Nat) : Int) := by
  rw [pieceW_eq h zs (show i < zs.length by omega), pieceW_eq h zs (show 0 < j by omega), pieceW_eq h zs (show 0 < zs.length by omega), pieceW_eq h zs hij, if_neg (Nat.lt_irrefl _), if_pos hj]
  show _ + (_ - (0 : Int) + _ + _) - (_ - (0 : Int) + _ + _) = _
  omega
/-- the places at which a word can be parted, with their prices -/
def places (S : Sty) (zs : List Nat) : List (Nat × Nat) := (List.range' 2 (zs.length - 3)).filterMap fun k => (look S.B (zs.getD (k - 1) 0, zs.getD k 0)).map fun p => (k, p)
theorem places_bd {S : Sty} {zs : List Nat} {r : Nat × Nat} (h : r ∈ places S zs) : 2 ≤ r.1 ∧ r.1 + 1 < zs.length := by
  obtain ⟨k, hk, e⟩ := List.mem_filterMap.mp h
  rw [List.mem_range'_1] at hk
  cases el : look S.B (zs.getD (k - 1) 0, zs.getD k 0) with
  | none => rw [el] at e; cases e
  | some p =>
    rw [el] at e
    have e : (k, p) = r := Option.some.inj e
    subst e
    show 2 ≤ k ∧ k + 1 < zs.length
    omega
theorem places_asc (S : Sty) (zs : List Nat) : (places S zs).Pairwise fun p q => p.1 < q.1 := by
  unfold places
  refine List.Pairwise.filterMap _ ?_ (List.pairwise_lt_range' ..)
  intro a b hab p hp q hq
  cases ea : look S.B (zs.getD (a - 1) 0, zs.getD a 0) with
  | none => rw [ea] at hp; cases hp
  | some x =>
    cases eb : look S.B (zs.getD (b - 1) 0, zs.getD b 0) with
    | none => rw [eb] at hq; cases hq
    | some y =>
      rw [ea] at hp
      rw [eb] at hq
      have hp : (a, x) = p := Option.some.inj hp
      have hq : (b, y) = q := Option.some.inj hq
      subst hp hq
      exact hab
end Vf

set_option Elab.async false
set_option linter.all false
set_option maxRecDepth 100000
set_option maxHeartbeats 4000000
namespace Vf
open PySem PySem.Spec PyProof.Rows L2 TL
/-! ### styles as they stand; the program -/
def rowV (r : List Nat × V) : List V := r.1.map sgn ++ [r.2]
def RowsV (H : Hp) (v : V) (L : List (List Nat × V)) : Prop := ∃ (a : Addr) (vs : List V), v = .ref a ∧ H a = some (.tup vs) ∧ vs.length = L.length ∧ ∀ (i : Nat) (r : List Nat × V), L[i]? = some r → ∃ b : Addr, vs[i]? = some (.ref b) ∧ H b = some (.tup (rowV r))
def StyV (H : Hp) (v : V) (S : Sty) : Prop := ∃ (a : Addr) (wv cv bv pv : V), v = .ref a ∧ H a = some (.tup [.int S.m, .int S.dp, .int S.cl, wv, cv, bv, pv]) ∧ RowsV H wv (rowsW S.W) ∧ RowsV H cv (rows2 S.C) ∧ RowsV H bv (rows2 S.B)
theorem RowsV.mono {H H' : Hp} {v : V} {L : List (List Nat × V)} (h : RowsV H v L) (k : ∀ a xs, H a = some (.tup xs) → H' a = some (.tup xs)) : RowsV H' v L := by
  obtain ⟨a, vs, e, q, l, r⟩ := h
  exact ⟨a, vs, e, k _ _ q, l, fun i x hx => by
    obtain ⟨b, e1, q1⟩ := r i x hx
    exact ⟨b, e1, k _ _ q1⟩⟩
theorem StyV.mono {H H' : Hp} {v : V} {S : Sty} (h : StyV H v S) (k : ∀ a xs, H a = some (.tup xs) → H' a = some (.tup xs)) : StyV H' v S := by
  obtain ⟨a, wv, cv, bv, pv, e, q, h1, h2, h3⟩ := h
  exact ⟨a, wv, cv, bv, pv, e, k _ _ q, h1.mono k, h2.mono k, h3.mono k⟩
theorem same_tup {H H' : Hp} (h : Same H H') : ∀ a xs, H a = some (.tup xs) → H' a = some (.tup xs) := fun a xs e => h _ _ e
theorem DI.neT {d l a : Addr} {H : Hp} {xs : List V} (h : DI d l H) (e : H a = some (.tup xs)) : a ≠ d := by
  obtain ⟨_, _, i, b, s, c, _, h2⟩ := h
  intro z
  rw [z, h2] at e
  cases e
theorem kp_tup {d l : Addr} {H H' : Hp} (hD : DI d l H) (h : Kp d H H') : ∀ a xs, H a = some (.tup xs) → H' a = some (.tup xs) := fun a xs e => h _ _ (hD.neT e) e
theorem cut_last (l : List V) (x : V) : cutV (l ++ [x]) none (some (-1)) = l := by
  unfold cutV
  rw [HT.sIx_none]
  have e : HT.sIx (l ++ [x]).length (l ++ [x]).length (some (-1)) = l.length := by
    have e0 : ∀ n d : Nat, HT.sIx n d (some (-1)) = ((-1 : Int) + (n : Int)).toNat := fun n d => by
      unfold HT.sIx
      simp
    rw [e0, List.length_append]
    show ((-1 : Int) + ((l.length + 1 : Nat) : Int)).toNat = _
    omega
  rw [e, List.drop_zero, Nat.sub_zero, List.take_append_of_le_length (Nat.le_refl _), List.take_length]
theorem cut_part (l : List V) (x : V) : ¬ (HT.sIx (l ++ [x]).length 0 none = 0 ∧ HT.sIx (l ++ [x]).length (l ++ [x]).length (some (-1)) = (l ++ [x]).length) := by
  intro h
  have e : HT.sIx (l ++ [x]).length (l ++ [x]).length (some (-1)) = l.length := by
    have e0 : ∀ n d : Nat, HT.sIx n d (some (-1)) = ((-1 : Int) + (n : Int)).toNat := fun n d => by
      unfold HT.sIx
      simp
    rw [e0, List.length_append]
    show ((-1 : Int) + ((l.length + 1 : Nat) : Int)).toNat = _
    omega
  have h2 := h.2
  rw [e, List.length_append] at h2
  have h2 : l.length = l.length + 1 := h2
  omega
theorem sgn_str (k : List Nat) : k.map sgn = (k.map sg1).map V.str := by rw [List.map_map]; rfl
def dat (k : List Nat) : PyData := .tuple (k.map fun c => .str (sg1 c))
theorem eqvAll_key : ∀ a b : List Nat, PyData.eqvAll (a.map fun c => PyData.str (sg1 c)) (b.map fun c => .str (sg1 c)) = decide (a = b)
  | [], [] => by simp [PyData.eqvAll]
  | [], _ :: _ => by simp [PyData.eqvAll]
  | _ :: _, [] => by simp [PyData.eqvAll]
  | x :: xs, y :: ys => by
    have e1 : sg1 x = sg1 y ↔ x = y := ⟨fun z => by have := congrArg (fun t : Str => t.cps.toList) z; exact (List.cons.inj this).1, fun z => by rw [z]⟩
    simp only [List.map_cons, PyData.eqvAll, PyData.eqv]
    rw [eqvAll_key xs ys]
    by_cases e : x = y
    · subst e
      simp
    · have : (sg1 x == sg1 y) = false := beq_eq_false_iff_ne.mpr fun z => e (e1.mp z)
      rw [this]
      simp [e]
theorem eqv_key (a b : List Nat) : PyData.eqv (dat a) (dat b) = decide (a = b) := by
  show PyData.eqv (.tuple _) (.tuple _) = _
  simp only [PyData.eqv]
  exact eqvAll_key a b
theorem key_lay : ∀ {k : List Nat}, (∀ c ∈ k, c < 1114112) → PyData.canLayAll0 (k.map fun c => PyData.str (sg1 c)) = true
  | [], _ => rfl
  | c :: k, h => by
    show (PyData.strOk (sg1 c) && PyData.canLayAll0 (k.map fun c => PyData.str (sg1 c))) = true
    have e : PyData.strOk (sg1 c) = true := by
      unfold PyData.strOk sg1
      rw [List.all_toArray]
      exact List.all_eq_true.mpr fun x hx => decide_eq_true (by rw [List.mem_singleton.mp hx]; exact h c List.mem_cons_self)
    rw [e, key_lay fun z hz => h z (List.mem_cons_of_mem _ hz)]
    rfl
theorem key_depth : ∀ k : List Nat, PyData.depthAll (k.map fun c => PyData.str (sg1 c)) = 0
  | [] => rfl
  | c :: k => by
    show max 0 (PyData.depthAll (k.map fun c => PyData.str (sg1 c))) = 0
    rw [key_depth k]
    rfl
theorem shaped_key {k : List Nat} (h : ∀ c ∈ k, c < 1114112) : SeqAt.shaped (dat k) = true := by
  have h2 : PyData.depth (dat k) ≤ 64 := by
    show PyData.depthAll (k.map fun c => PyData.str (sg1 c)) + 1 ≤ 64
    rw [key_depth]
    decide
  show (PyData.canLay0 (dat k) && decide (PyData.depth (dat k) ≤ 64)) = true
  rw [Bool.and_eq_true]
  exact ⟨by unfold dat; simp only [PyData.canLay0]; exact key_lay h, decide_eq_true h2⟩
theorem dp_key {K : PySem.W.Frag} {H : Hp} {a : Addr} {k : List Nat} (e : H a = some (.tup (k.map sgn))) : Dp K H (.ref a) (dat k) := by
  refine .tup (SqT.of e) ?_
  clear e
  induction k with
  | nil => exact .nil
  | cons c r ih => exact .cons (.str (sg1 c)) ih
theorem hu0 {k : Nat} {A : Around} (r : Room k A) : A.units < cLine := by have := r.units; omega
theorem hu1 {k : Nat} {A : Around} (r : Room k A) : A.units + 1 < cLine := by have := r.units; omega
section
variable {P : Program} {w : World} {K : PySem.W.Frag} {mg : Str → Option Value} {base : Heap}
def spTold : Sp := fun vs H Q _ => ∃ (v o : V) (kb : Addr) (L : List (List Nat × V)) (key : List Nat), vs = [v, .ref kb, o] ∧ RowsV H v L ∧ Asc L ∧ L.length ≤ 1000 ∧ (∀ r ∈ L, ∀ c ∈ r.1, c < 1114112) ∧ (∀ c ∈ key, c < 1114112) ∧ H kb = some (.tup (key.map sgn)) ∧
  ∀ H', Same H H' → Q ((look L key).getD o) H'
theorem ok_told (T : Txt K mg) : FnOk P w K mg base CX0 1 T.a_told T.d_told ["rows", "key", "otherwise"] spTold := by
  refine T.D_told.F.ok sc_told (fun vs H Q E h => ?_) (fun cdv A outer s H vs Q E hr h => ?_)
  · obtain ⟨v, o, kb, L, key, rfl, _⟩ := h
    rfl
  · obtain ⟨v, o, kb, L, key, rfl, ⟨a, us, rfl, e, lu, hR⟩, hA, l1000, lk, k12, ek, q⟩ := h
    refine ⟨_, (pss_cons (ps_set (i := 3) sc_told.nd rfl (.inl rfl) pe_int)
      (pss_cons (ps_set (i := 4) sc_told.nd rfl (.inl rfl) (pe_callB call_len_seq (by rfl) T.n_len PySem.boot_len (pa_cons (pv 0) pa_nil)))
      (pss_cons (ps_while PassesOwn.never (pt_cmpR op_lt (pv 3) (pv 4) (nomark _)) (pss_cons (ps_set (i := 5) sc_told.nd rfl (.inl rfl) (pe_op op_fdivN (pe_op op_add (pv 3) (pv 4)) pe_int))
      (pss_one (ps_if (pt_cmpR (op_ltS (hu0 hr)) (pe_slice sl_tup (pe_ix ix_tup (pv 0) (pv 5) (fun _ _ => rfl)) po_none (po_some (pe_un un_neg pe_int))) (pv 1) (nomark _)) (pss_one (ps_set (i := 3) sc_told.nd rfl (.inl rfl) (pe_op op_add (pv 5) pe_int))) (pss_one (ps_set (i := 4) sc_told.nd rfl (.inl rfl) (pv 5)))))))
      (pss_cons (ps_if (PW.pt (pw_and (pt_cmpR op_lt (pv 3) (pe_callB call_len_seq (by rfl) T.n_len PySem.boot_len (pa_cons (pv 0) pa_nil)) (nomark _)) (pw_and1 (pt_cmpR (op_eqD (Room.units hr)) (pe_slice sl_tup (pe_ix ix_tup (pv 0) (pv 3) (fun _ _ => rfl)) po_none (po_some (pe_un un_neg pe_int))) (pv 1) (nomark _))))) (pss_one (ps_ret (pe_ix ix_tup (pe_ix ix_tup (pv 0) (pv 3) (fun _ _ => rfl)) (pe_un un_neg pe_int) (fun _ _ => rfl)))) pss_nil)
      (pss_one (ps_ret (pv 2))))))), ?_⟩
    refine ⟨_, rfl, a, us, rfl, .inr (SqT.of e), ?_⟩
    refine ⟨fun m σ' H' => Same H H' ∧ ∃ (lo hi : Nat) (x5 : Option V), m = hi - lo ∧ σ' = [some (.ref a), some (.ref kb), some o, some (.int (lo : Int)), some (.int (hi : Int)), x5] ∧ lo ≤ hi ∧ hi ≤ L.length ∧
      (∀ (i : Nat) r, i < lo → L[i]? = some r → lexN r.1 key = true) ∧ (∀ (i : Nat) r, hi ≤ i → L[i]? = some r → lexN r.1 key = false),
      ⟨L.length, Same.refl H, 0, L.length, none, rfl, by rw [lu]; rfl, Nat.zero_le _, Nat.le_refl _, fun i r h => absurd h (Nat.not_lt_zero _), fun i r h1 h2 => by
        have := (List.getElem?_eq_some_iff.mp h2).1
        omega⟩, fun m σ' H' hW => ?_⟩
    obtain ⟨k, lo, hi, x5, em, rfl, lh, hl, hlow, hhigh⟩ := hW
    refine ⟨_, rfl, _, rfl, _, _, rfl, rfl, _, rfl, ite2 (fun c => ?_) (fun c => ?_)⟩
    · have c := of_decide_eq_true c
      have clt : lo < hi := by omega
      have hm : (lo + hi) / 2 < L.length := by omega
      have gm : L[(lo + hi) / 2]? = some L[(lo + hi) / 2] := List.getElem?_eq_getElem hm
      obtain ⟨b, gb, eb⟩ := hR _ _ gm
      have em2 : ((lo : Int) + (hi : Int)).fdiv 2 = (((lo + hi) / 2 : Nat) : Int) := by
        rw [Int.fdiv_eq_ediv_of_nonneg _ (by decide)]
        omega
      refine ⟨fun σ'' H'' => Same H H'' ∧ ∃ (lo' hi' : Nat) (x5 : Option V), hi' - lo' < hi - lo ∧ σ'' = [some (.ref a), some (.ref kb), some o, some (.int (lo' : Int)), some (.int (hi' : Int)), x5] ∧ lo' ≤ hi' ∧ hi' ≤ L.length ∧
        (∀ (i : Nat) r, i < lo' → L[i]? = some r → lexN r.1 key = true) ∧ (∀ (i : Nat) r, hi' ≤ i → L[i]? = some r → lexN r.1 key = false), fun σ'' H'' hN => ?_, ?_⟩
      · obtain ⟨k2, lo', hi', x5', h1, h2, h3⟩ := hN
        exact ⟨hi' - lo', by omega, k2, lo', hi', x5', rfl, h2, h3⟩
      · refine ⟨_, rfl, _, rfl, _, _, rfl, rfl, _, _, rfl, rfl, ⟨by decide, by decide⟩, ?_⟩
        refine ⟨_, rfl, _, rfl, a, us, _, .ref b, rfl, rfl, SqT.of (k _ _ e), by rw [em2]; exact atI_nat gb, 1, rfl, -1, rfl, b, _, rfl, SqT.of (k _ _ eb), cut_part _ _, fun p np => ?_⟩
        have kp := same_upd (o := .tup (cutV (rowV L[(lo + hi) / 2]) none (some (-1)))) (Same.refl H') np
        refine ⟨_, rfl, p, kb, L[(lo + hi) / 2].1.map sg1, key.map sg1, rfl, rfl, SqT.of (by rw [upd_same, ← sgn_str]; exact congrArg (fun z => some (HO.tup z)) (cut_last _ _)), SqT.of (by rw [← sgn_str]; exact kp _ _ (k _ _ ek)), ?_⟩
        rw [lexS_map]
        refine ⟨_, rfl, ite2 (fun c2 => ?_) (fun c2 => ?_)⟩
        · refine ⟨_, rfl, _, _, rfl, rfl, k.trans kp, (lo + hi) / 2 + 1, hi, some (V.int (((lo : Int) + (hi : Int)).fdiv 2)), by omega, by
            show [some (V.ref a), some (V.ref kb), some o, some (V.int (((lo : Int) + (hi : Int)).fdiv 2 + 1)), some (V.int (hi : Int)), some (V.int (((lo : Int) + (hi : Int)).fdiv 2))] = _
            rw [em2]; rfl, by omega, hl, fun i r hi2 hr2 => ?_, hhigh⟩
          by_cases z : i = (lo + hi) / 2
          · rw [z, gm] at hr2
            have := Option.some.inj hr2
            rw [← this]; exact c2
          · exact lexN_trans (hA.lt hr2 gm (by omega)) c2
        · have c3 : lexN L[(lo + hi) / 2].1 key = false := by
            cases h : lexN L[(lo + hi) / 2].1 key with
            | true => exact absurd h c2
            | false => rfl
          refine ⟨_, rfl, k.trans kp, lo, (lo + hi) / 2, some (V.int (((lo : Int) + (hi : Int)).fdiv 2)), by omega, by
            show [some (V.ref a), some (V.ref kb), some o, some (V.int (lo : Int)), some (V.int (((lo : Int) + (hi : Int)).fdiv 2)), some (V.int (((lo : Int) + (hi : Int)).fdiv 2))] = _
            rw [em2], by omega, by omega, hlow, fun i r hi2 hr2 => ?_⟩
          by_cases z : i = (lo + hi) / 2
          · rw [z, gm] at hr2
            have := Option.some.inj hr2
            rw [← this]; exact c3
          · have l1 := hA.lt gm hr2 (by omega)
            cases h : lexN r.1 key with
            | true => rw [lexN_trans l1 h] at c3; cases c3
            | false => rfl
    · have ceq : lo = hi := by
        have : ¬ ((lo : Int) < (hi : Int)) := fun z => c (decide_eq_true z)
        omega
      subst ceq
      have hx : ∀ (i : Nat) r, lo < i → L[i]? = some r → r.1 ≠ key := fun i r hi2 hr2 z => by
        have h0 : lo < L.length := by have := (List.getElem?_eq_some_iff.mp hr2).1; omega
        have g0 : L[lo]? = some L[lo] := List.getElem?_eq_getElem h0
        have l1 := hA.lt g0 hr2 hi2
        have l2 := hhigh lo _ (Nat.le_refl _) g0
        rw [z, l2] at l1; cases l1
      refine ⟨_, rfl, _, rfl, a, us, rfl, .inr (SqT.of (k _ _ e)), _, _, rfl, rfl, decide (lo < L.length), ?_, ?_⟩
      · rw [lu]
        by_cases z : lo < L.length
        · rw [decide_eq_true z]; exact bl_of (decide_eq_true (show (lo : Int) < (L.length : Int) by omega))
        · rw [decide_eq_false z]; exact bl_of (decide_eq_false (show ¬ (lo : Int) < (L.length : Int) by omega))
      by_cases h0 : lo < L.length
      · rw [decide_eq_true h0]
        have g0 : L[lo]? = some L[lo] := List.getElem?_eq_getElem h0
        obtain ⟨b, gb, eb⟩ := hR _ _ g0
        refine ⟨_, rfl, _, rfl, a, us, _, .ref b, rfl, rfl, SqT.of (k _ _ e), atI_nat gb, 1, rfl, -1, rfl, b, _, rfl, SqT.of (k _ _ eb), cut_part _ _, fun p np => ?_⟩
        have kp := same_upd (o := .tup (cutV (rowV L[lo]) none (some (-1)))) (Same.refl H') np
        have ep : upd H' p (.tup (cutV (rowV L[lo]) none (some (-1)))) p = some (.tup (L[lo].1.map sgn)) := by rw [upd_same]; exact congrArg (fun z => some (HO.tup z)) (cut_last _ _)
        refine ⟨_, rfl, dat L[lo].1, dat key, dp_key ep, dp_key (kp _ _ (k _ _ ek)), shaped_key (lk _ (List.getElem_mem h0)), shaped_key k12, ?_⟩
        rw [eqv_key]
        by_cases z : L[lo].1 = key
        · refine ⟨true, by rw [decide_eq_true z], ?_⟩
          have ek2 : look L key = some L[lo].2 := by
            rw [← z]
            exact look_at g0 fun j r hj hr2 => fun y => lexN_ne (hlow j r hj hr2) (y.trans z)
          have qq := q _ (k.trans kp)
          rw [ek2] at qq
          exact ⟨_, rfl, _, rfl, a, us, _, .ref b, rfl, rfl, SqT.of (kp _ _ (k _ _ e)), atI_nat gb, 1, rfl, b, _, _, _, rfl, rfl, SqT.of (kp _ _ (k _ _ eb)), atI_last _ _, qq⟩
        · refine ⟨false, by rw [decide_eq_false z], ?_⟩
          have ek2 : look L key = none := look_none fun r hr2 => by
            obtain ⟨i, hi2⟩ := List.mem_iff_getElem?.mp hr2
            rcases Nat.lt_trichotomy i lo with y | y | y
            · exact lexN_ne (hlow i r y hi2)
            · rw [y, g0] at hi2
              have := Option.some.inj hi2
              rw [← this]; exact z
            · exact hx i r y hi2
          have qq := q _ (k.trans kp)
          rw [ek2] at qq
          exact ⟨_, rfl, qq⟩
      · rw [decide_eq_false h0]
        have ek2 : look L key = none := look_none fun r hr2 => by
          obtain ⟨i, hi2⟩ := List.mem_iff_getElem?.mp hr2
          have := (List.getElem?_eq_some_iff.mp hi2).1
          exact lexN_ne (hlow i r (by omega) hi2)
        have qq := q _ k
        rw [ek2] at qq
        exact ⟨_, rfl, qq⟩
end
end Vf

set_option Elab.async false
set_option linter.all false
set_option maxRecDepth 100000
set_option maxHeartbeats 4000000
namespace Vf
open PySem PySem.Spec PyProof.Rows L2 TL
def prV : Option Nat → V
  | none => .non
  | some p => natV p
theorem look_w (W : List (Nat × Nat)) (c : Nat) : (look (rowsW W) [c]).getD (.int 1) = natV (wOf W c) := by
  rw [look_rowsW]
  unfold wOf
  cases look W c <;> rfl
theorem look_c (C : List ((Nat × Nat) × Nat)) (a b : Nat) : (look (rows2 C) [a, b]).getD (.int 0) = natV (cutOf C a b) := by
  rw [look_rows2]
  unfold cutOf
  cases look C (a, b) <;> rfl
theorem look_b (C : List ((Nat × Nat) × Nat)) (a b : Nat) : (look (rows2 C) [a, b]).getD .non = prV (look C (a, b)) := by
  rw [look_rows2]
  cases look C (a, b) <;> rfl
theorem len_rW (W : List (Nat × Nat)) : (rowsW W).length = W.length := List.length_map ..
theorem len_r2 (W : List ((Nat × Nat) × Nat)) : (rows2 W).length = W.length := List.length_map ..
section
variable {P : Program} {w : World} {K : PySem.W.Frag} {mg : Str → Option Value} {base : Heap}
def spWidthOf : Sp := fun vs H Q _ => ∃ (v : V) (S : Sty) (c : Nat), vs = [v, sgn c] ∧ StyV H v S ∧ StyOk S ∧ c < 1114112 ∧ ∀ H', Same H H' → Q (natV (wOf S.W c)) H'
def spCutOf : Sp := fun vs H Q _ => ∃ (v : V) (S : Sty) (c d : Nat), vs = [v, sgn c, sgn d] ∧ StyV H v S ∧ StyOk S ∧ c < 1114112 ∧ d < 1114112 ∧ ∀ H', Same H H' → Q (natV (cutOf S.C c d)) H'
def spPriceOf : Sp := fun vs H Q _ => ∃ (v : V) (S : Sty) (c d : Nat), vs = [v, sgn c, sgn d] ∧ StyV H v S ∧ StyOk S ∧ c < 1114112 ∧ d < 1114112 ∧ ∀ H', Same H H' → Q (prV (look S.B (c, d))) H'
theorem ok_width_of (T : Txt K mg) : FnOk P w K mg base CX0 2 T.a_width_of T.d_width_of ["style", "sign"] spWidthOf := by
  have G_told : FnOk P w K mg base CX0 1 T.a_told T.d_told ["rows", "key", "otherwise"] spTold := ok_told T
  refine T.D_width_of.F.ok sc_width_of (fun vs H Q E h => ?_) (fun cdv A outer s H vs Q E hr h => ?_)
  · obtain ⟨v, S, c, rfl, _⟩ := h
    rfl
  · obtain ⟨v, S, c, rfl, ⟨a, wv, cv, bv, pv_, rfl, e, h1, h2, h3⟩, ok, hc, q⟩ := h
    refine ⟨_, (pss_one (ps_ret (pe_call G_told (hr.mono (by decide)) (by rfl) T.D_told.G T.D_told.F.kp T.D_told.B .nil pass0 (pa_cons (pe_ix ix_tup (pv 0) pe_int (fun _ _ => rfl)) (pa_cons (pe_tup (pa_cons (pv 1) pa_nil)) (pa_cons pe_int pa_nil)))))), ?_⟩
    refine ⟨_, rfl, a, _, _, wv, rfl, rfl, SqT.of e, rfl, _, rfl, Nat.le_of_lt (lt_s (by show _ < 100000; simp)), fun p np => ?_⟩
    have kp := same_upd (o := .tup [sgn c]) (Same.refl H) np
    refine ⟨wv, .int 1, p, rowsW S.W, [c], rfl, h1.mono (same_tup kp), ok.sw, by rw [len_rW]; have := ok.lw; omega, ok.uw, fun x hx => by rw [List.mem_singleton.mp hx]; exact hc, upd_same, fun H' k => ?_⟩
    rw [look_w]
    exact q _ (kp.trans k)
theorem ok_cut_of (T : Txt K mg) : FnOk P w K mg base CX0 2 T.a_cut_of T.d_cut_of ["style", "sign", "next_sign"] spCutOf := by
  have G_told : FnOk P w K mg base CX0 1 T.a_told T.d_told ["rows", "key", "otherwise"] spTold := ok_told T
  refine T.D_cut_of.F.ok sc_cut_of (fun vs H Q E h => ?_) (fun cdv A outer s H vs Q E hr h => ?_)
  · obtain ⟨v, S, c, d, rfl, _⟩ := h
    rfl
  · obtain ⟨v, S, c, d, rfl, ⟨a, wv, cv, bv, pv_, rfl, e, h1, h2, h3⟩, ok, hc, hd, q⟩ := h
    refine ⟨_, (pss_one (ps_ret (pe_call G_told (hr.mono (by decide)) (by rfl) T.D_told.G T.D_told.F.kp T.D_told.B .nil pass0 (pa_cons (pe_ix ix_tup (pv 0) pe_int (fun _ _ => rfl)) (pa_cons (pe_tup (pa_cons (pv 1) (pa_cons (pv 2) pa_nil))) (pa_cons pe_int pa_nil)))))), ?_⟩
    refine ⟨_, rfl, a, _, _, cv, rfl, rfl, SqT.of e, rfl, _, rfl, _, rfl, Nat.le_of_lt (lt_s (by show _ < 100000; simp)), fun p np => ?_⟩
    have kp := same_upd (o := .tup [sgn c, sgn d]) (Same.refl H) np
    refine ⟨cv, .int 0, p, rows2 S.C, [c, d], rfl, h2.mono (same_tup kp), ok.sc, by rw [len_r2]; have := ok.lc; omega, ok.uc, fun x hx => by
      rcases List.mem_cons.mp hx with z | z
      · rw [z]; exact hc
      · rw [List.mem_singleton.mp z]; exact hd, upd_same, fun H' k => ?_⟩
    rw [look_c]
    exact q _ (kp.trans k)
theorem ok_break_price (T : Txt K mg) : FnOk P w K mg base CX0 2 T.a_break_price T.d_break_price ["style", "sign", "next_sign"] spPriceOf := by
  have G_told : FnOk P w K mg base CX0 1 T.a_told T.d_told ["rows", "key", "otherwise"] spTold := ok_told T
  refine T.D_break_price.F.ok sc_break_price (fun vs H Q E h => ?_) (fun cdv A outer s H vs Q E hr h => ?_)
  · obtain ⟨v, S, c, d, rfl, _⟩ := h
    rfl
  · obtain ⟨v, S, c, d, rfl, ⟨a, wv, cv, bv, pv_, rfl, e, h1, h2, h3⟩, ok, hc, hd, q⟩ := h
    refine ⟨_, (pss_one (ps_ret (pe_call G_told (hr.mono (by decide)) (by rfl) T.D_told.G T.D_told.F.kp T.D_told.B .nil pass0 (pa_cons (pe_ix ix_tup (pv 0) pe_int (fun _ _ => rfl)) (pa_cons (pe_tup (pa_cons (pv 1) (pa_cons (pv 2) pa_nil))) (pa_cons pe_non pa_nil)))))), ?_⟩
    refine ⟨_, rfl, a, _, _, bv, rfl, rfl, SqT.of e, rfl, _, rfl, _, rfl, Nat.le_of_lt (lt_s (by show _ < 100000; simp)), fun p np => ?_⟩
    have kp := same_upd (o := .tup [sgn c, sgn d]) (Same.refl H) np
    refine ⟨bv, .non, p, rows2 S.B, [c, d], rfl, h3.mono (same_tup kp), ok.sb, by rw [len_r2]; have := ok.lb; omega, ok.ub, fun x hx => by
      rcases List.mem_cons.mp hx with z | z
      · rw [z]; exact hc
      · rw [List.mem_singleton.mp z]; exact hd, upd_same, fun H' k => ?_⟩
    rw [look_b]
    exact q _ (kp.trans k)
theorem bT {p : Prop} [Decidable p] (h : p) : V.bl (decide p) = V.bl true := by rw [decide_eq_true h]
theorem bF {p : Prop} [Decidable p] (h : ¬ p) : V.bl (decide p) = V.bl false := by rw [decide_eq_false h]
/-- a word -/
structure WdOk (zs : List Nat) : Prop where
  len : zs.length ≤ 16
  ok : ∀ c ∈ zs, c < 1114112
  nf : ∀ c ∈ zs, c ≠ 95
theorem WdOk.at {zs : List Nat} (h : WdOk zs) {k : Nat} (hk : k < zs.length) : (mkS zs).cps.toList[k]? = some (zs.getD k 0) ∧ zs.getD k 0 < 1114112 := by
  have e : zs[k]? = some (zs.getD k 0) := by rw [List.getD_eq_getElem?_getD, List.getElem?_eq_getElem hk]; rfl
  exact ⟨by rw [mkS_cps]; exact e, h.ok _ (List.mem_of_getElem? e)⟩
def spWidthAt : Sp := fun vs H Q _ => ∃ (v : V) (S : Sty) (zs : List Nat) (k j : Nat), vs = [v, sV zs, .int (k : Int), .int (j : Int)] ∧ StyV H v S ∧ StyOk S ∧ WdOk zs ∧ k < j ∧ j ≤ zs.length ∧ ∀ H', Same H H' → Q (natV (wAt S zs j k)) H'
theorem ok_width_at (T : Txt K mg) : FnOk P w K mg base CX0 3 T.a_width_at T.d_width_at ["style", "word", "at", "behind"] spWidthAt := by
  have G_width_of : FnOk P w K mg base CX0 2 T.a_width_of T.d_width_of ["style", "sign"] spWidthOf := ok_width_of T
  have G_cut_of : FnOk P w K mg base CX0 2 T.a_cut_of T.d_cut_of ["style", "sign", "next_sign"] spCutOf := ok_cut_of T
  refine T.D_width_at.F.ok sc_width_at (fun vs H Q E h => ?_) (fun cdv A outer s H vs Q E hr h => ?_)
  · obtain ⟨v, S, zs, k, j, rfl, _⟩ := h
    rfl
  · obtain ⟨v, S, zs, k, j, rfl, hv, ok, wd, hk, hj, q⟩ := h
    refine ⟨_, (pss_cons (ps_if (pt_cmpR op_lt (pe_op op_add (pv 2) pe_int) (pv 3) (nomark _)) (pss_one (ps_ret (pe_op op_sub (pe_call G_width_of (hr.mono (by decide)) (by rfl) T.D_width_of.G T.D_width_of.F.kp T.D_width_of.B .nil pass0 (pa_cons (pv 0) (pa_cons (pe_ix ix_str (pv 1) (pv 2) (fun _ _ => rfl)) pa_nil))) (pe_call G_cut_of (hr.mono (by decide)) (by rfl) T.D_cut_of.G T.D_cut_of.F.kp T.D_cut_of.B .nil pass0 (pa_cons (pv 0) (pa_cons (pe_ix ix_str (pv 1) (pv 2) (fun _ _ => rfl)) (pa_cons (pe_ix ix_str (pv 1) (pe_op op_add (pv 2) pe_int) (fun _ _ => rfl)) pa_nil))))))) pss_nil)
      (pss_one (ps_ret (pe_call G_width_of (hr.mono (by decide)) (by rfl) T.D_width_of.G T.D_width_of.F.kp T.D_width_of.B .nil pass0 (pa_cons (pv 0) (pa_cons (pe_ix ix_str (pv 1) (pv 2) (fun _ _ => rfl)) pa_nil)))))), ?_⟩
    have hb : (mkS zs).length ≤ sizeLine := by rw [mkS_len]; exact big_ok (by have := wd.len; omega)
    have g0 := wd.at (show k < zs.length by omega)
    refine ⟨_, rfl, _, _, rfl, rfl, _, rfl, _, _, rfl, rfl, _, rfl, ite2 (fun c => ?_) (fun c => ?_)⟩
    · have c := of_decide_eq_true c
      have c2 : k + 1 < j := by omega
      have g1 := wd.at (show k + 1 < zs.length by omega)
      refine ⟨_, rfl, _, rfl, _, rfl, mkS zs, (k : Int), zs.getD k 0, rfl, rfl, hb, atI_nat g0.1, v, S, _, rfl, hv, ok, g0.2, fun H1 k1 => ?_⟩
      refine ⟨_, rfl, _, rfl, _, rfl, mkS zs, (k : Int), zs.getD k 0, rfl, rfl, hb, atI_nat g0.1, _, rfl, _, rfl, _, _, rfl, rfl, mkS zs, (k : Int) + 1, zs.getD (k + 1) 0, rfl, rfl, hb, atI_nat (j := k + 1) g1.1, v, S, _, _, rfl, hv.mono (same_tup k1), ok, g0.2, g1.2, fun H2 k2 => ?_⟩
      refine ⟨_, _, rfl, rfl, ?_⟩
      have e : (wOf S.W (zs.getD k 0) : Int) - (cutOf S.C (zs.getD k 0) (zs.getD (k + 1) 0) : Int) = ((wAt S zs j k : Nat) : Int) := by
        unfold wAt
        rw [if_pos c2]
        have := cut_lt ok (zs.getD k 0) (zs.getD (k + 1) 0)
        omega
      show Q (V.int ((wOf S.W (zs.getD k 0) : Int) - (cutOf S.C (zs.getD k 0) (zs.getD (k + 1) 0) : Int))) H2
      rw [e]
      exact q _ (k1.trans k2)
    · have c2 : ¬ k + 1 < j := fun z => c (decide_eq_true (by omega))
      refine ⟨_, rfl, _, rfl, _, rfl, mkS zs, (k : Int), zs.getD k 0, rfl, rfl, hb, atI_nat g0.1, v, S, _, rfl, hv, ok, g0.2, fun H1 k1 => ?_⟩
      have e : wOf S.W (zs.getD k 0) = wAt S zs j k := by
        unfold wAt
        rw [if_neg c2]
      rw [e]
      exact q _ k1
def spPieceW : Sp := fun vs H Q _ => ∃ (v : V) (S : Sty) (zs : List Nat) (i j : Nat), vs = [v, sV zs, .int (i : Int), .int (j : Int)] ∧ StyV H v S ∧ StyOk S ∧ WdOk zs ∧ i ≤ j ∧ j ≤ zs.length ∧ ∀ H', Same H H' → Q (natV (pieceW S zs i j)) H'
end
end Vf

set_option Elab.async false
set_option linter.all false
set_option maxRecDepth 100000
set_option maxHeartbeats 4000000
namespace Vf
open PySem PySem.Spec PyProof.Rows L2 TL
/-! ### shapes -/
def RowAt (H : Hp) (S : Sty) (zs : List Nat) (x : V) (r : Nat × Nat) : Prop := ∃ b, x = .ref b ∧ H b = some (.tup [natV (pieceW S zs 0 r.1), natV (pieceW S zs r.1 zs.length), natV r.2])
def PartL (H : Hp) (S : Sty) (zs : List Nat) (vs : List V) (rs : List (Nat × Nat)) : Prop := vs.length = rs.length ∧ ∀ (i : Nat) (r : Nat × Nat), rs[i]? = some r → ∃ x, vs[i]? = some x ∧ RowAt H S zs x r
theorem PartL.same {H H' : Hp} {S : Sty} {zs : List Nat} {vs : List V} {rs : List (Nat × Nat)} (h : PartL H S zs vs rs) (k : ∀ a xs, H a = some (.tup xs) → H' a = some (.tup xs)) : PartL H' S zs vs rs := ⟨h.1, fun i r e => by
  obtain ⟨x, e1, b, e2, e3⟩ := h.2 i r e
  exact ⟨x, e1, b, e2, k _ _ e3⟩⟩
theorem PartL.snoc {H : Hp} {S : Sty} {zs : List Nat} {vs : List V} {rs : List (Nat × Nat)} {x : V} {r : Nat × Nat} (h : PartL H S zs vs rs) (hx : RowAt H S zs x r) : PartL H S zs (vs ++ [x]) (rs ++ [r]) := by
  refine ⟨by rw [List.length_append, List.length_append, h.1]; rfl, fun i q e => ?_⟩
  by_cases hi : i < rs.length
  · rw [List.getElem?_append_left hi] at e
    obtain ⟨y, e1, e2⟩ := h.2 i q e
    exact ⟨y, by rw [List.getElem?_append_left (by rw [h.1]; exact hi)]; exact e1, e2⟩
  · rw [List.getElem?_append_right (by omega)] at e
    have e0 : i - rs.length = 0 := by
      have := (List.getElem?_eq_some_iff.mp e).1
      simp at this
      exact this
    rw [e0] at e
    have e : r = q := Option.some.inj e
    subst e
    exact ⟨x, by rw [List.getElem?_append_right (by rw [h.1]; omega), h.1, e0]; rfl, hx⟩
def ShapeV (H : Hp) (v : V) (S : Sty) (zs : List Nat) : Prop := ∃ (a pa : Addr) (vs : List V), v = .ref a ∧ H a = some (.tup [natV (pieceW S zs 0 zs.length), .ref pa]) ∧ H pa = some (.tup vs) ∧ PartL H S zs vs (places S zs)
theorem ShapeV.mono {H H' : Hp} {v : V} {S : Sty} {zs : List Nat} (h : ShapeV H v S zs) (k : ∀ a xs, H a = some (.tup xs) → H' a = some (.tup xs)) : ShapeV H' v S zs := by
  obtain ⟨a, pa, vs, e, h1, h2, h3⟩ := h
  exact ⟨a, pa, vs, e, k _ _ h1, k _ _ h2, h3.same k⟩
def plN (S : Sty) (zs : List Nat) (n : Nat) : List (Nat × Nat) := (List.range' 2 n).filterMap fun k => (look S.B (zs.getD (k - 1) 0, zs.getD k 0)).map fun p => (k, p)
theorem plN_succ (S : Sty) (zs : List Nat) (n : Nat) : plN S zs (n + 1) = plN S zs n ++ ((look S.B (zs.getD (n + 1) 0, zs.getD (n + 2) 0)).map fun p => (n + 2, p)).toList := by
  unfold plN
  rw [List.range'_1_concat, List.filterMap_append]
  congr 1
  have e1 : 2 + n - 1 = n + 1 := by omega
  have e2 : 2 + n = n + 2 := by omega
  rw [e2]
  show List.filterMap _ [n + 2] = _
  cases h : look S.B (zs.getD (n + 1) 0, zs.getD (n + 2) 0) with
  | none => rw [List.filterMap_cons_none (by show Option.map _ (look S.B (zs.getD (n + 1) 0, zs.getD (n + 2) 0)) = none; rw [h]; rfl)]; rfl
  | some p => rw [List.filterMap_cons_some (b := (n + 2, p)) (by show Option.map _ (look S.B (zs.getD (n + 1) 0, zs.getD (n + 2) 0)) = _; rw [h]; rfl)]; rfl
def ends (S : Sty) (zs : List Nat) : List Nat := 0 :: ((places S zs).map (·.1) ++ [zs.length])
section
variable {P : Program} {w : World} {K : PySem.W.Frag} {mg : Str → Option Value} {base : Heap}
theorem places_look {S : Sty} {zs : List Nat} {r : Nat × Nat} (h : r ∈ places S zs) : look S.B (zs.getD (r.1 - 1) 0, zs.getD r.1 0) = some r.2 := by
  unfold places at h
  obtain ⟨k, hk, e⟩ := List.mem_filterMap.mp h
  cases hl : look S.B (zs.getD (k - 1) 0, zs.getD k 0) with
  | none => rw [hl] at e; cases e
  | some p =>
    rw [hl] at e
    have := Option.some.inj e
    subst this
    exact hl
theorem places_len (S : Sty) (zs : List Nat) : (places S zs).length ≤ zs.length := by
  unfold places
  have h1 := List.length_filterMap_le (fun k => (look S.B (zs.getD (k - 1) 0, zs.getD k 0)).map fun p => (k, p)) (List.range' 2 (zs.length - 3))
  rw [List.length_range'] at h1
  omega
theorem places_plN (S : Sty) (zs : List Nat) : places S zs = plN S zs (zs.length - 3) := rfl
def spPlacesOf : Sp := fun vs H Q _ => ∃ (v : V) (S : Sty) (zs : List Nat), vs = [v, sV zs] ∧ StyV H v S ∧ StyOk S ∧ WdOk zs ∧ ∀ H' D, Same H H' → H D = none → H' D = some (.lst ((places S zs).map fun r : Nat × Nat => natV r.1)) → Q (.ref D) H'
theorem ok_parting_places (T : Txt K mg) : FnOk P w K mg base CX0 3 T.a_parting_places T.d_parting_places ["style", "word"] spPlacesOf := by
  have G_break_price : FnOk P w K mg base CX0 2 T.a_break_price T.d_break_price ["style", "sign", "next_sign"] spPriceOf := ok_break_price T
  refine T.D_parting_places.F.ok sc_parting_places (fun vs H Q E h => ?_) (fun cdv A outer s H vs Q E hr h => ?_)
  · obtain ⟨v, S, zs, rfl, _⟩ := h
    rfl
  · obtain ⟨v, S, zs, rfl, hv, ok, wd, q⟩ := h
    refine ⟨_, (pss_one (ps_ret (pe_lc (own := [("at", 2)]) (g := gName 2) rfl sc_parting_places.nd (pi_range2 (by rfl) T.n_range (pa_cons pe_int (pa_cons (pe_op op_sub (pe_callB call_len_str (by rfl) T.n_len PySem.boot_len (pa_cons (pv 1) pa_nil)) pe_int) pa_nil))) (blkOk_by (own := [("at", 2)]) (N := ["style", "word", "at"]) (sc := (defScope s_parting_places)) (by decide +kernel)) (fun _ _ _ _ _ => (pg_name (i := 2) sc_parting_places.nd rfl (.inl rfl))) (fun _ _ _ _ _ => (pts_one (pt_cmpR op_notN (pe_call G_break_price (hr.mono (by decide)) (by rfl) T.D_break_price.G T.D_break_price.F.kp T.D_break_price.B .nil pass0 (pa_cons (pv 0) (pa_cons (pe_ix ix_str (pv 1) (pe_op op_sub (pv 2) pe_int) (fun _ _ => rfl)) (pa_cons (pe_ix ix_str (pv 1) (pv 2) (fun _ _ => rfl)) pa_nil)))) pe_non (nomark _)))) (fun _ _ _ _ _ => (pv 2))))), ?_⟩
    have hb : (mkS zs).length ≤ sizeLine := by rw [mkS_len]; exact big_ok (by have := wd.len; omega)
    have hl := wd.len
    refine ⟨_, rfl, mkS zs, rfl, hb, _, _, rfl, rfl, 2, _, rfl, ⟨by decide, by decide, by rw [mkS_len]; omega, by rw [mkS_len]; omega⟩, ?_⟩
    have en : (((mkS zs).length : Int) - 1 - 2).toNat = zs.length - 3 := by rw [mkS_len]; omega
    rw [en]
    refine fun D nD => lc_range (lo := 2) (n := zs.length - 3) (fun n H' => Same H H' ∧ H' D = some (.lst ((plN S zs n).map fun r : Nat × Nat => natV r.1)) ∧ (plN S zs n).length ≤ n) ⟨same_upd (Same.refl H) nD, upd_same, by simp [plN]⟩ (fun n H' hn p => ⟨rfl, ?_⟩) (fun H' p => ?_)
    · obtain ⟨k1, e1, ln⟩ := p
      have g1 := wd.at (show n + 1 < zs.length by omega)
      have g2 := wd.at (show n + 2 < zs.length by omega)
      have ea : (2 + (n : Int)) - 1 = ((n + 1 : Nat) : Int) := by omega
      have eb : (2 + (n : Int)) = ((n + 2 : Nat) : Int) := by omega
      refine ⟨_, rfl, _, rfl, _, rfl, _, _, rfl, rfl, mkS zs, (2 + (n : Int)) - 1, zs.getD (n + 1) 0, rfl, rfl, hb, by rw [ea]; exact atI_nat g1.1, _, rfl, _, rfl, mkS zs, 2 + (n : Int), zs.getD (n + 2) 0, rfl, rfl, hb, by rw [eb]; exact atI_nat g2.1, ?_⟩
      refine ⟨v, S, _, _, rfl, hv.mono (same_tup k1), ok, g1.2, g2.2, fun H1 k2 => ?_⟩
      cases hp : look S.B (zs.getD (n + 1) 0, zs.getD (n + 2) 0) with
      | none =>
        refine ⟨rfl, false, rfl, k1.trans k2, ?_, ?_⟩
        · rw [plN_succ, hp, k2 _ _ e1]; show _ = some (HO.lst ((plN S zs n ++ []).map fun r : Nat × Nat => natV r.1)); rw [List.append_nil]
        · rw [plN_succ, hp]; show (plN S zs n ++ []).length ≤ _; rw [List.append_nil]; omega
      | some p =>
        refine ⟨rfl, true, rfl, _, rfl, _, k2 _ _ e1, by rw [List.length_map]; exact lt_s (by omega), same_mut (k1.trans k2) nD, ?_, ?_⟩
        · rw [upd_same, plN_succ, hp, List.map_append, eb]; rfl
        · rw [plN_succ, hp, List.length_append]; exact Nat.succ_le_succ ln
    · obtain ⟨k1, e1, _⟩ := p
      exact q _ _ k1 nD (by rw [places_plN]; exact e1)
def spShapeOf : Sp := fun vs H Q _ => ∃ (v : V) (S : Sty) (zs : List Nat), vs = [v, sV zs] ∧ StyV H v S ∧ StyOk S ∧ WdOk zs ∧ ∀ u H', Same H H' → ShapeV H' u S zs → Q u H'
theorem ends_part {S : Sty} {zs : List Nat} {k : Nat} {r : Nat × Nat} (h : (places S zs)[k]? = some r) : (ends S zs)[k + 1]? = some r.1 := by
  show ((places S zs).map (·.1) ++ [zs.length])[k]? = _
  have hk := (List.getElem?_eq_some_iff.mp h).1
  rw [List.getElem?_append_left (by rw [List.length_map]; exact hk), List.getElem?_map, h]
  rfl
theorem ends_last (S : Sty) (zs : List Nat) : (ends S zs)[(places S zs).length + 1]? = some zs.length := by
  show ((places S zs).map (·.1) ++ [zs.length])[(places S zs).length]? = _
  rw [List.getElem?_append_right (by rw [List.length_map]; exact Nat.le_refl _), List.length_map, Nat.sub_self]
  rfl
theorem ends_len (S : Sty) (zs : List Nat) : (ends S zs).length = (places S zs).length + 2 := by
  unfold ends
  rw [List.length_cons, List.length_append, List.length_map]; rfl
end
end Vf

set_option Elab.async false
set_option linter.all false
set_option maxRecDepth 100000
set_option maxHeartbeats 4000000
namespace Vf
open PySem PySem.Spec PyProof.Rows L2 TL
/-- what the list of a comprehension holds: texts -/
def PvS (R : List Nat → Prop) (d l : Addr) (H : Hp) (D : Addr) (i : Nat) (H' : Hp) : Prop :=
  ∃ zss : List (List Nat), zss.length = i ∧ (∀ zs ∈ zss, R zs) ∧ Kp d H H' ∧ DI d l H' ∧ H' D = some (.lst (zss.map sV))
theorem PvS.start {R : List Nat → Prop} {d l D : Addr} {H : Hp} (hD : DI d l H) (nD : H D = none) : PvS R d l H D 0 (upd H D (.lst [])) :=
  ⟨[], rfl, (fun _ h => nomatch h), (Kp.refl d H).new nD, hD.new nD, upd_same⟩
theorem PvS.dice {R : List Nat → Prop} {d l D : Addr} {H H1 : Hp} {i : Nat} (p : PvS R d l H D i H1) : DI d l H1 := by
  obtain ⟨_, _, _, _, h, _⟩ := p
  exact h
theorem PvS.step {R : List Nat → Prop} {d l D : Addr} {H H1 H2 : Hp} {i : Nat} {zs : List Nat} (hD : DI d l H) (nD : H D = none) (p : PvS R d l H D i H1) (hi : i < 100000) (K2 : Kp d H1 H2) (D2 : DI d l H2) (r : R zs) :
    ∃ acc, H2 D = some (.lst acc) ∧ acc.length < sizeLine ∧ PvS R d l H D (i + 1) (upd H2 D (.lst (acc ++ [sV zs]))) := by
  obtain ⟨zss, hl, hR, K1, D1, e1⟩ := p
  have n1 := hD.nd nD
  have e2 : H2 D = some (.lst (zss.map sV)) := K2 _ _ n1.1 e1
  refine ⟨_, e2, ?_, zss ++ [zs], ?_, ?_, (K1.trans K2).mut nD, D2.at n1.1 n1.2, ?_⟩
  · rw [List.length_map, hl]
    exact Nat.lt_of_lt_of_le hi (by decide)
  · rw [List.length_append, hl]; rfl
  · intro z hz
    rcases List.mem_append.mp hz with h | h
    · exact hR z h
    · rw [List.mem_singleton.mp h]; exact r
  · rw [upd_same, List.map_append]; rfl
section
variable {P : Program} {w : World} {K : PySem.W.Frag} {mg : Str → Option Value} {base : Heap}
/-! ### pick, rare -/
/-- what is picked from -/
def Row (K : PySem.W.Frag) (H : Hp) (d : Addr) (row : V) (xs : List V) : Prop :=
  (∃ a, row = .ref a ∧ a ≠ d ∧ SqL K H a xs) ∨ ∃ zs, row = sV zs ∧ xs = zs.map fun c => sV [c]
def spPick (K : PySem.W.Frag) : Sp := fun vs H Q _ => ∃ (d l : Addr) (row : V) (xs : List V), vs = [.ref d, row] ∧ DI d l H ∧ Row K H d row xs ∧ 0 < xs.length ∧ xs.length ≤ 1000 ∧
  ∀ H' v, Kp d H H' → DI d l H' → v ∈ xs → Q v H'
theorem at_draw {xs : List V} {r : Int} (h : 0 < xs.length) (h1 : (xs.length : Int) < 2 → r = 0) (h2 : 2 ≤ (xs.length : Int) → 0 ≤ r ∧ r < (xs.length : Int)) :
    ∃ (j : Nat) (hj : j < xs.length), r = (j : Int) := by
  by_cases h3 : 2 ≤ (xs.length : Int)
  · have ⟨a, b⟩ := h2 h3
    exact ⟨r.toNat, by omega, by omega⟩
  · exact ⟨0, h, by rw [h1 (by omega)]; rfl⟩
theorem ok_pick (T : Txt K mg) : FnOk P w K mg base CX0 2 T.a_law_pick T.d_law_pick ["_law_d", "_law_row"] (spPick K) := by
  have G_law_draw : FnOk P w K mg base CX0 1 T.a_law_draw T.d_law_draw ["_law_d", "_law_many"] spDraw := ok_draw T
  refine T.D_law_pick.F.ok sc_law_pick (fun vs H Q E h => ?_) (fun cdv A outer s H vs Q E hr h => ?_)
  · obtain ⟨d, l, row, xs, rfl, _⟩ := h
    rfl
  · obtain ⟨d, l, row, xs, rfl, hD, hR, h0, hx, q⟩ := h
    refine ⟨_, (pss_one (ps_ret (pe_ix ix_seq (pv 1) (pe_call G_law_draw (hr.mono (by decide)) (by rfl) T.D_law_draw.G T.D_law_draw.F.kp T.D_law_draw.B .nil pass0 (pa_cons (pv 0) (pa_cons (pe_callB call_len (by rfl) T.n_len PySem.boot_len (pa_cons (pv 1) pa_nil)) pa_nil))) (fun _ _ => rfl)))), ?_⟩
    have hlen : LenV K row H xs.length := by
      rcases hR with ⟨a, rfl, _, hS⟩ | ⟨zs, rfl, rfl⟩
      · exact .inl ⟨_, hS, rfl⟩
      · rw [List.length_map] at hx ⊢
        refine ⟨?_, (mkS_len zs).symm⟩
        rw [mkS_len]
        exact Nat.le_trans hx (by decide)
    refine ⟨_, rfl, _, rfl, _, rfl, _, _, rfl, hlen, d, l, _, rfl, hD, by omega, fun H' r k D' e1 e2 => ?_⟩
    obtain ⟨j, hj, rfl⟩ := at_draw h0 e1 e2
    rcases hR with ⟨a, rfl, nd, hS⟩ | ⟨zs, rfl, rfl⟩
    · exact .inl ⟨a, xs, _, xs[j], rfl, rfl, k.sq nd hS, atI_nat (List.getElem?_eq_getElem hj), q H' _ k D' (List.getElem_mem hj)⟩
    · have hj2 : j < zs.length := by rw [List.length_map] at hj; exact hj
      refine .inr (.inr ⟨mkS zs, _, zs[j], rfl, rfl, ?_, ?_, q H' _ k D' (List.mem_map.mpr ⟨zs[j], List.getElem_mem hj2, rfl⟩)⟩)
      · rw [mkS_len]; rw [List.length_map] at hx; exact Nat.le_trans hx (by decide)
      · rw [mkS_cps]; exact atI_nat (List.getElem?_eq_getElem hj2)
def spRare : Sp := fun vs H Q _ => ∃ (d l : Addr) (m : Int), vs = [.ref d, .int m] ∧ DI d l H ∧ m ≤ 1000000 ∧ ∀ H' b, Kp d H H' → DI d l H' → Q (.bl b) H'
theorem ok_rare (T : Txt K mg) : FnOk P w K mg base CX0 2 T.a_law_rare T.d_law_rare ["_law_d", "_law_many"] spRare := by
  have G_law_draw : FnOk P w K mg base CX0 1 T.a_law_draw T.d_law_draw ["_law_d", "_law_many"] spDraw := ok_draw T
  refine T.D_law_rare.F.ok sc_law_rare (fun vs H Q E h => ?_) (fun cdv A outer s H vs Q E hr h => ?_)
  · obtain ⟨d, l, m, rfl, _⟩ := h
    rfl
  · obtain ⟨d, l, m, rfl, hD, hm, q⟩ := h
    refine ⟨_, (pss_one (ps_ret (pe_cmpR op_eq (pe_call G_law_draw (hr.mono (by decide)) (by rfl) T.D_law_draw.G T.D_law_draw.F.kp T.D_law_draw.B .nil pass0 (pa_cons (pv 0) (pa_cons (pv 1) pa_nil))) (pe_op op_fdivN (pe_op op_mul (pv 1) pe_int) pe_int) (nomark _)))), ?_⟩
    refine ⟨_, rfl, _, rfl, d, l, m, rfl, hD, (by omega), fun H' r k D' e1 e2 => ?_⟩
    exact ⟨_, rfl, _, _, rfl, rfl, .inr ⟨by decide, by decide⟩, _, _, rfl, rfl, ⟨by decide, by decide⟩, rfl, q H' _ k D'⟩
/-! ### run, word -/
def spRun : Sp := fun vs H Q _ => ∃ (d l : Addr) (cs : List Nat) (n : Int), vs = [.ref d, sV cs, .int n] ∧ DI d l H ∧ 0 < cs.length ∧ cs.length ≤ 1000 ∧ 0 ≤ n ∧ n ≤ 1000 ∧
  ∀ H' zs, Kp d H H' → DI d l H' → (zs.length : Int) = n → (∀ c ∈ zs, c ∈ cs) → Q (sV zs) H'
/-- texts of one sign each -/
def One (cs zs : List Nat) : Prop := ∃ c, zs = [c] ∧ c ∈ cs
theorem one_flat {cs : List Nat} : ∀ {zss : List (List Nat)}, (∀ z ∈ zss, One cs z) → zss.flatten.length = zss.length ∧ ∀ c ∈ zss.flatten, c ∈ cs
  | [], _ => ⟨rfl, fun _ h => nomatch h⟩
  | z :: r, h => by
    obtain ⟨c, rfl, hc⟩ := h z List.mem_cons_self
    have ⟨a, b⟩ := one_flat (zss := r) fun y hy => h y (List.mem_cons_of_mem _ hy)
    rw [List.flatten_cons]
    refine ⟨by rw [List.length_append, a]; show 1 + r.length = r.length + 1; omega, fun x hx => ?_⟩
    rcases List.mem_append.mp hx with e | e
    · rw [List.mem_singleton.mp e]; exact hc
    · exact b x e
theorem pick_one {d l : Addr} {cs : List Nat} {H : Hp} {Q : VK} (hD : DI d l H) (h0 : 0 < cs.length) (hx : cs.length ≤ 1000) (q : ∀ H' zs, Kp d H H' → DI d l H' → One cs zs → Q (sV zs) H') : spPick K [.ref d, sV cs] H Q E0 := by
  refine ⟨d, l, _, _, rfl, hD, .inr ⟨cs, rfl, rfl⟩, by rw [List.length_map]; exact h0, by rw [List.length_map]; exact hx, fun H' v k D' hv => ?_⟩
  obtain ⟨c, hc, rfl⟩ := List.mem_map.mp hv
  exact q H' _ k D' ⟨c, rfl, hc⟩
def spWord : Sp := fun vs H Q _ => ∃ (d l : Addr) (lo hi : Int), vs = [.ref d, .int lo, .int hi] ∧ DI d l H ∧ 0 ≤ lo ∧ lo ≤ hi ∧ hi ≤ 900 ∧
  ∀ H' zs, Kp d H H' → DI d l H' → lo ≤ (zs.length : Int) → (zs.length : Int) ≤ hi → (∀ c ∈ zs, cW c = true) → Q (sV zs) H'
theorem ok_word (T : Txt K mg) : FnOk P w K mg base CX0 3 T.a_law_word T.d_law_word ["_law_d", "_law_low", "_law_high"] spWord := by
  have G_law_draw : FnOk P w K mg base CX0 1 T.a_law_draw T.d_law_draw ["_law_d", "_law_many"] spDraw := ok_draw T
  have G_law_pick : FnOk P w K mg base CX0 2 T.a_law_pick T.d_law_pick ["_law_d", "_law_row"] (spPick K) := ok_pick T
  refine T.D_law_word.F.ok sc_law_word (fun vs H Q E h => ?_) (fun cdv A outer s H vs Q E hr h => ?_)
  · obtain ⟨d, l, lo, hi, rfl, _⟩ := h
    rfl
  · obtain ⟨d, l, lo, hi, rfl, hD, h0, hlo, hhi, q⟩ := h
    refine ⟨_, (pss_cons (ps_set (i := 3) sc_law_word.nd rfl (.inl rfl) (pe_op op_add (pv 1) (pe_call G_law_draw (hr.mono (by decide)) (by rfl) T.D_law_draw.G T.D_law_draw.F.kp T.D_law_draw.B .nil pass0 (pa_cons (pv 0) (pa_cons (pe_op op_add (pe_op op_sub (pv 2) (pv 1)) pe_int) pa_nil)))))
      (pss_cons (ps_set (i := 4) sc_law_word.nd rfl (.inr rfl) (pe_call G_law_pick (hr.mono (by decide)) (by rfl) T.D_law_pick.G T.D_law_pick.F.kp T.D_law_pick.B .nil pass0 (pa_cons (pv 0) (pa_cons (pe_lst (pa_cons pe_str (pa_cons pe_str (pa_cons pe_str (pa_cons pe_str (pa_cons pe_str (pa_cons pe_str pa_nil))))))) pa_nil))))
      (pss_one (ps_ret (pe_join pe_str (pe_lc (own := [("_law_k", 5)]) (g := gName 5) (tt := tYes) rfl sc_law_word.nd (pi_range1 (by rfl) T.n_range (pa_cons (pv 3) pa_nil)) (blkOk_by (own := [("_law_k", 5)]) (N := ["_law_d", "_law_low", "_law_high", "_law_long", "_law_signs", "_law_k"]) (sc := (defScope s_law_word)) (by decide +kernel)) (fun _ _ _ _ _ => (pg_name (i := 5) sc_law_word.nd rfl (.inl rfl))) (fun _ _ _ _ _ => pts_nil) (fun _ _ _ _ _ => (pe_call G_law_pick (hr.mono (by decide)) (by rfl) T.D_law_pick.G T.D_law_pick.F.kp T.D_law_pick.B .nil pass0 (pa_cons (pv 0) (pa_cons (pv 4) pa_nil)))))))))), ?_⟩
    refine ⟨_, rfl, _, rfl, _, rfl, _, rfl, _, _, rfl, rfl, _, _, rfl, rfl, d, l, _, rfl, hD, by omega, fun H1 r K1 D1 r1 r2 => ?_⟩
    have hr0 : 0 ≤ r ∧ r ≤ hi - lo := by
      by_cases z : hi - lo + 1 < 2
      · have := r1 z; omega
      · have := r2 (by omega); omega
    refine ⟨_, _, rfl, rfl, ?_⟩
    refine ⟨_, rfl, ⟨by show 6 ≤ sizeLine; decide, fun p np => ?_⟩⟩
    refine ⟨d, l, _, _, rfl, D1.new np, .inl ⟨p, rfl, (D1.nd np).1, SqL.of upd_same⟩, by show 0 < 6; decide, by show 6 ≤ 1000; decide, fun H2 v K2 D2 hv => ?_⟩
    have hz : ∃ z : Str, v = .str z ∧ (0 < z.cps.toList.length ∧ z.cps.toList.length ≤ 1000 ∧ z.cps.toList.all cW = true) := by
      simp only [List.mem_cons, List.not_mem_nil, or_false] at hv
      rcases hv with rfl | rfl | rfl | rfl | rfl | rfl <;> exact ⟨_, rfl, by decide +kernel⟩
    obtain ⟨z, rfl, hz0, hz1, hz2⟩ := hz
    have K3 : Kp d H H2 := (K1.new np).trans K2
    refine ⟨⟨_, rfl⟩, _, rfl, _, rfl, by omega, by omega, ?_⟩
    refine fun D nD => lc_range (lo := 0) (n := (lo + r).toNat) (PvS (One z.cps.toList) d l H2 D) (PvS.start D2 nD) (fun i H1 hi p => ⟨rfl, ?_⟩) (fun H' p => ?_)
    · exact ⟨_, rfl, _, rfl, pick_one (cs := z.cps.toList) p.dice hz0 hz1 fun H2 zs k2 d2 r => p.step D2 nD (by omega) k2 d2 r⟩
    · obtain ⟨zss, hl, hR, K4, D4, e1⟩ := p
      have ⟨f1, f2⟩ := one_flat hR
      refine ⟨_, D, zss.map mkS, rfl, rfl, .inl (SqL.of (by rw [e1, map_sV])), ?_, ?_⟩
      · rw [sum_len, f1, show (("" : Str)).length = 0 from by rw [empty_mk, mkS_len]; rfl]; omega
      · rw [join_mk]
        exact q H' _ (K3.trans K4) D4 (by rw [f1, hl]; omega) (by rw [f1, hl]; omega) fun c hc => List.all_eq_true.mp hz2 c (f2 c hc)
end
end Vf

set_option Elab.async false
set_option linter.all false
set_option maxRecDepth 100000
set_option maxHeartbeats 4000000
namespace Vf
open PySem PySem.Spec PyProof.Rows L2 TL
/-- texts that the dice make, no argument but the dice -/
def spStr (R : List Nat → Prop) : Sp := fun vs H Q _ => ∃ (d l : Addr), vs = [.ref d] ∧ DI d l H ∧ ∀ H' zs, Kp d H H' → DI d l H' → R zs → Q (sV zs) H'
def spC (z : Str) : Sp := fun vs H Q _ => vs = [] ∧ Q (.str z) H
def RWord (zs : List Nat) : Prop := zs ≠ [] ∧ zs.length ≤ 16 ∧ ∀ c ∈ zs, cW c = true
def RName (zs : List Nat) : Prop := zs ≠ [] ∧ zs.length ≤ 8 ∧ ∀ c ∈ zs, cL c = true
def RTok (zs : List Nat) : Prop := Tk zs ∧ zs.length ≤ 60
theorem ne_of_len {zs : List Nat} {n : Int} (h : (zs.length : Int) = n) (h0 : 0 < n) : zs ≠ [] := fun e => by
  rw [e] at h
  have : (([] : List Nat).length : Int) = 0 := rfl
  omega
theorem mem_cW {c : Nat} (h : c ∈ sW.cps.toList) : cW c = true := decide_eq_true h
theorem mem_cL {c : Nat} (h : c ∈ sL.cps.toList) : cL c = true := decide_eq_true h
theorem sW_n : sW.cps.toList.length = 51 := by decide +kernel
theorem sL_n : sL.cps.toList.length = 26 := by decide +kernel
theorem sOdd_n : sOdd.cps.toList.length = 39 := by decide +kernel
def sNames : Str := ("let hole page note key head par list item table row cell show over up low fence grid line" : Str) ++ (" figure label contents index" : Str)
theorem names_ok : ∀ y ∈ Txt.split sNames (" " : Str), (y.cps.toList.length ≠ 0 ∧ y.cps.toList.length ≤ 8) ∧ y.cps.toList.all cL = true := by decide +kernel
theorem names_n : 0 < (Txt.split sNames (" " : Str)).length ∧ (Txt.split sNames (" " : Str)).length ≤ 1000 := by decide +kernel
section
variable {P : Program} {w : World} {K : PySem.W.Frag} {mg : Str → Option Value} {base : Heap}
end
end Vf

set_option Elab.async false
set_option linter.all false
set_option maxRecDepth 100000
set_option maxHeartbeats 4000000
namespace Vf
open PySem PySem.Spec PyProof.Rows L2 TL
/-! ### rows of things, nets -/
def nV (w : Nat) : V := .int (w : Int)
def oV : Option Int → V
  | none => .non
  | some x => .int x
def oN (o : Option Nat) : V := oV (o.map fun x : Nat => (x : Int))
theorem oV_inj : ∀ {a b : Option Int}, oV a = oV b → a = b
  | none, none, _ => rfl
  | some _, some _, h => by rw [V.int.inj h]
  | none, some _, h => by cases h
  | some _, none, h => by cases h
theorem szN {n : Nat} (h : n < 100000) : n < sizeLine := Nat.lt_of_lt_of_le h (by decide)
theorem bTr {p : Prop} [Decidable p] (h : p) : V.bl (decide p) = V.bl true := by rw [decide_eq_true h]
theorem bFa {p : Prop} [Decidable p] (h : ¬ p) : V.bl (decide p) = V.bl false := by rw [decide_eq_false h]
theorem bNT {p : Prop} [Decidable p] (h : p) : V.bl (!decide p) = V.bl false := by rw [decide_eq_true h]; rfl
theorem bNF {p : Prop} [Decidable p] (h : ¬ p) : V.bl (!decide p) = V.bl true := by rw [decide_eq_false h]; rfl
/-- what stands in a list or tuple, thing by thing -/
def LV {α : Type} (R : V → α → Prop) (vs : List V) (rs : List α) : Prop := vs.length = rs.length ∧ ∀ (i : Nat) (r : α), rs[i]? = some r → ∃ x, vs[i]? = some x ∧ R x r
theorem LV.nil {α : Type} {R : V → α → Prop} : LV R [] [] := ⟨rfl, fun i r h => by cases i <;> cases h⟩
theorem LV.mono {α : Type} {R R' : V → α → Prop} {vs : List V} {rs : List α} (h : LV R vs rs) (k : ∀ x r, R x r → R' x r) : LV R' vs rs := ⟨h.1, fun i r e => by
  obtain ⟨x, e1, e2⟩ := h.2 i r e
  exact ⟨x, e1, k _ _ e2⟩⟩
theorem LV.snoc {α : Type} {R : V → α → Prop} {vs : List V} {rs : List α} {x : V} {r : α} (h : LV R vs rs) (hx : R x r) : LV R (vs ++ [x]) (rs ++ [r]) := by
  refine ⟨by rw [List.length_append, List.length_append, h.1]; rfl, fun i q e => ?_⟩
  by_cases hi : i < rs.length
  · rw [List.getElem?_append_left hi] at e
    obtain ⟨y, e1, e2⟩ := h.2 i q e
    exact ⟨y, by rw [List.getElem?_append_left (by rw [h.1]; exact hi)]; exact e1, e2⟩
  · rw [List.getElem?_append_right (by omega)] at e
    have e0 : i - rs.length = 0 := by
      have := (List.getElem?_eq_some_iff.mp e).1
      simp at this
      exact this
    rw [e0] at e
    have e : r = q := Option.some.inj e
    subst e
    exact ⟨x, by rw [List.getElem?_append_right (by rw [h.1]; omega), h.1, e0]; rfl, hx⟩
theorem LV.at {α : Type} {R : V → α → Prop} {vs : List V} {rs : List α} {i : Nat} {x : V} (h : LV R vs rs) (e : vs[i]? = some x) : ∃ r, rs[i]? = some r ∧ R x r := by
  have hi : i < rs.length := by rw [← h.1]; exact (List.getElem?_eq_some_iff.mp e).1
  obtain ⟨y, e1, e2⟩ := h.2 i _ (List.getElem?_eq_getElem hi)
  rw [e] at e1
  have := Option.some.inj e1
  subst this
  exact ⟨_, List.getElem?_eq_getElem hi, e2⟩
abbrev Arc := Nat × Nat × Nat
def ArcV (H : Hp) (x : V) (r : Arc) : Prop := ∃ b, x = .ref b ∧ H b = some (.tup [nV r.1, nV r.2.1, nV r.2.2])
theorem ArcV.mono {H H' : Hp} {x : V} {r : Arc} (h : ArcV H x r) (k : ∀ a xs, H a = some (.tup xs) → H' a = some (.tup xs)) : ArcV H' x r := by
  obtain ⟨b, e, f⟩ := h
  exact ⟨b, e, k _ _ f⟩
theorem kpTup {d l : Addr} {H H' : Hp} (D : DI d l H) (k : Kp d H H') : ∀ a xs, H a = some (.tup xs) → H' a = some (.tup xs) := fun a xs e => by
  obtain ⟨n, ⟨ns, h1⟩, i, b, s, c, h0, h2⟩ := D
  exact k _ _ (fun z => by rw [z, h2] at e; cases e) e
end Vf

set_option Elab.async false
set_option linter.all false
set_option maxRecDepth 100000
set_option maxHeartbeats 4000000
namespace Vf
open PySem PySem.Spec PyProof.Rows L2
/-! ### dict comprehensions whose keys are tuples of ints and texts -/
/-- one pair put into the dict at D that is being made: y the key, z the value -/
def PutT (D : Addr) (y z : V) (H : Hp) (N : Hp → Prop) : Prop :=
  ∃ (kvs : List (List Key × V)) (k : List Key) (b : Addr), y = .ref b ∧ H b = some (.tup (k.map kV)) ∧ H D = some (.dT kvs) ∧ kvs.length < sizeLine ∧ N (upd H D (.dT (putK kvs k z)))
theorem put_runs {Y : Cx} {ps : List (Addr × Obj)} {τ : L2.St} {H : Hp} {t : Shared} {D : Addr} {y z : V} {u r : Value} {N : Hp → Prop} {F : Value → Shared → Prop} (few : Y.A.units < cLine) (I : Inv Y ps τ H t) (ky : RelV y u) (kz : RelV z r) (h : PutT D y z H N) :
    wpAny (model Y.prog Y.w) Y.A (dictSet D u r) (fun _ t' => ∃ H', Inv Y ps τ H' t' ∧ N H') F t := by
  obtain ⟨kvs, k, b, ey, eb, eD, hl, hN⟩ := h
  subst ey
  obtain rfl : u = Value.ref b := ky
  obtain ⟨h1, h2, xs, rel, dd⟩ := dt_of I.hok eD
  have lx : xs.length ≤ sizeLine := (Paired.length rel) ▸ h1
  have lp : (putK kvs k z).length ≤ sizeLine := Nat.le_trans (length_putK kvs k z) hl
  refine wpAny_dictSet_heap (hsz := lx) few (key_of I.hok eb) dd fun h' d' same => ⟨_, ?_, hN⟩
  obtain ⟨o, es, ep, g1, g2, g3, g4, _, g5⟩ := d'
  refine d_write I (eD ▸ True.intro) same ⟨o, g1⟩ ⟨lp, h2, _, (rel.put k eb kz).keeps fun c ys ec => ?_, o, es, ep, g1, g2, g3, g4, g5⟩
  exact (upd_ne (ne_of ec eD (fun z => nomatch z))).trans ec
section
variable {X : Cx}
/-- {k: v for target in iter if ..}, keys tuples: D the new dict -/
def tDcT (wi : TI) (g : TG) (tt : TT) (tk tv : TE) (own : List Nat) : TE := fun σ H Q => wi σ H fun J Ha => ∀ D, Ha D = none →
  ∃ W : Nat → Nat → Hp → Prop, (∃ m, W 0 m (upd Ha D (.dT []))) ∧ ∀ i m Hb, W i m Hb → (J.stop i Hb ∧ Q (.ref D) Hb) ∨
    (J.go i Hb ∧ ∃ N : Hp → Prop, (∀ Hc, N Hc → ∃ m', m' < m ∧ W (i + 1) m' Hc) ∧ ∀ x Hc, J.yld i Hb x Hc →
      g x (wipe σ own) Hc fun σ2 H2 => wipe σ2 own = wipe σ own ∧ tt σ2 H2 fun b H3 => if b = true then tk σ2 H3 fun y H4 => tv σ2 H4 fun z H5 => PutT D y z H5 N else N H3)
/-- the block's promise of each part, wherever the block's own room comes to stand -/
abbrev InBlkD (X : Cx) (scope : Scope) (R : Cx → Prop) : Prop := ∀ (s : Shared) (H : Hp) (C : Addr) (cl : List (Str × Addr)) (fp : List Addr), R (X.blk s H scope (compEnvC scope cl C X.env) fp)
theorem dcT_core {pins : List (Addr × Obj)} {s : Shared} {σ : L2.St} {H : Hp} {Q : VK} {kx vx tg iter : Expr} {ifs : List Expr} {scope : Scope} {own : List (Str × Nat)} {pos pos' : Pos} {wi : TI} {g : TG} {tt : TT} {tk tv : TE} {use : Option (Value → Sem Unit)} {Qf : Value → Shared → Prop}
    (calm : X.calm = true) (few : X.A.units < cLine) (nd : X.N.Nodup) (I : Inv X pins σ H s) (pi : PI X tg iter wi) (bk : BlkOk X.N X.env.scope scope own)
    (pg : InBlkD X scope fun Y => PG Y tg g) (pt : InBlkD X scope fun Y => PTs Y ifs tt) (pk : InBlkD X scope fun Y => PE Y kx tk) (pv : InBlkD X scope fun Y => PE Y vx tv) (fold : ∀ x, foldedSetIterable iter X.env x = pure x)
    (h : tDcT wi g tt tk tv (own.map (·.2)) σ H Q)
    (leave : ∀ (D C : Addr) t ms H', Inv X pins σ H' t → Q (.ref D) H' → t.heap.Ns C ms → FpOk X pins H' C → compPost (model X.prog X.w) X.A X.xe use Qf (.ref D) C (.ok .next) t) :
    wpAny (model X.prog X.w) X.A (comprehension (.DictComp kx vx [⟨tg, iter, ifs, 0⟩] scope pos) scope X.env pos' newDict false (eval iter X.env) use) Qf X.xe s := by
  have has : ∀ y ∈ scope.names, y.2 = .free → ∃ c, X.env.cells.lookup y.1 = some c := by
    intro y hy e
    exact (bk.free y hy e).elim (fun k => I.ok.has _ (.inl k)) (fun k => I.ok.has _ (.inr k))
  refine wpAny_comprehension_free (use := use) rfl fold (closure_ok has) bk.kind (fun y hy e => (bk.uniq y hy).trans (congrArg some e)) ?_
  refine thn (pi.run pins s σ H _ I h) fun v0 s1 w1 => thn w1 fun v1 s2 w2 => ?_
  obtain ⟨it, fp, tn, J, Ha, rfl, Ia, T, st, fs, q⟩ := w2
  refine wpAny_newObj_type (newEnv_comp ?_)
  -- the new dict stands at D
  obtain ⟨D, eD⟩ : ∃ D, D = s2.heap.objs.size := ⟨_, rfl⟩
  obtain ⟨W, ⟨m0, w0⟩, turn⟩ := q D (Ia.hok.fresh (Nat.le_of_eq eD.symm))
  obtain ⟨s3, es3⟩ : ∃ s3 : Shared, s3 = { s2 with heap := s2.heap.push { cls := .type "dict", data := .dict #[] } } := ⟨_, rfl⟩
  have eh : s3.heap = s2.heap.push { cls := .type "dict", data := .dict #[] } := by rw [es3]
  rw [← es3, ← eD]
  have Ib : Inv X pins σ (upd Ha D (.dT [])) s3 := by
    rw [es3, eD]
    exact Ia.laid (t' := s2.toks) (fun b o e => Heap.get?_push_of_some _ e) (Nat.le_refl _) (dt_empty s2.heap Ia.big)
  have lt : ∀ b ∈ fp, b < D := fun b hb => by
    have ⟨o, e, _⟩ := T.obj _ _ st b hb
    rw [eD]; exact Heap.lt_size e
  have fd : ∀ b ∈ fp, (upd Ha D (.dT [])) b = none := fun b hb => (upd_ne (Nat.ne_of_lt (lt b hb))).trans (fs b hb).1
  have f3 : ∀ b ∈ fp, FpOk X pins (upd Ha D (.dT [])) b ∧ b < s3.heap.objs.size := fun b hb =>
    ⟨⟨fd b hb, (fs b hb).2⟩, by rw [eh, Heap.size_push, ← eD]; exact Nat.lt_succ_of_lt (lt b hb)⟩
  have st3 : tn 0 s3.heap := T.keep _ _ _ st fun b _ o e => by rw [eh]; exact Heap.get?_push_of_some _ e
  have Ic := block_start Ib bk nd f3
  have G := pg s3 (upd Ha D (.dT [])) s3.heap.objs.size (cellsFrom (s3.heap.objs.size + 1) scope.names (cloFrom X.env.cells scope.names [])) fp
  have S := pt s3 (upd Ha D (.dT [])) s3.heap.objs.size (cellsFrom (s3.heap.objs.size + 1) scope.names (cloFrom X.env.cells scope.names [])) fp
  have Kx := pk s3 (upd Ha D (.dT [])) s3.heap.objs.size (cellsFrom (s3.heap.objs.size + 1) scope.names (cloFrom X.env.cells scope.names [])) fp
  have Vx := pv s3 (upd Ha D (.dT [])) s3.heap.objs.size (cellsFrom (s3.heap.objs.size + 1) scope.names (cloFrom X.env.cells scope.names [])) fp
  obtain ⟨ce, ece⟩ : ∃ ce, ce = compEnvC scope (cellsFrom (s3.heap.objs.size + 1) scope.names (cloFrom X.env.cells scope.names [])) s3.heap.objs.size X.env := ⟨_, rfl⟩
  have cl : ce.locals = s3.heap.objs.size := by rw [ece]; rfl
  obtain ⟨s4, es4⟩ : ∃ s4 : Shared, s4 = { s3 with heap := pushCells (s3.heap.push { cls := .type "dict", data := .dict #[] }) scope.names } := ⟨_, rfl⟩
  rw [← ece] at Ic G S Kx Vx
  rw [← es4] at Ic
  have st4 : tn 0 s4.heap := T.keep _ _ _ st3 fun b _ o e => by rw [es4]; exact pushCells_keeps _ _ _ _ (Heap.get?_push_of_some _ e)
  have pinned : ∀ {τ : L2.St} {H' : Hp} {t : Shared}, Inv (X.blk s3 (upd Ha D (.dT [])) scope ce fp) [] τ H' t → (∀ b ∈ fp, H' b = none) → ∀ b ∈ fp, FpOk (X.blk s3 (upd Ha D (.dT [])) scope ce fp) [] H' b := by
    intro τ H' t I' free b hb
    have e1 := I'.ok.exf b hb
    exact ⟨free b hb, e1.1, I'.ok.exfs b hb, .inl hb, fun x c e => e1.2 x c e, fun p hp => by cases hp⟩
  -- what the loop keeps at its turn number i
  let Keep : Nat → Shared → Prop := fun n t => ∃ i H', Inv (X.blk s3 (upd Ha D (.dT [])) scope ce fp) [] (wipe σ (own.map (·.2))) H' t ∧ tn i t.heap ∧ (∀ b ∈ fp, H' b = none) ∧ W i n H'
  have runs : codeAny (model X.prog X.w) X.A (.compLoop (.DictComp kx vx [⟨tg, iter, ifs, 0⟩] scope pos) 0 (.ref it) (.ref D) ce)
      (compPost (model X.prog X.w) X.A X.xe use Qf (.ref D) s3.heap.objs.size) s4 := by
    refine compLoop_anyD Keep ?_ m0 ⟨0, _, Ic, st4, fd, w0⟩
    intro n t1 ⟨i, Hb, I1, z1, free, w1⟩
    rcases turn i n Hb w1 with ⟨stop, hQ⟩ | ⟨go, N, less, step⟩
    · -- no further thing: back in the def
      refine thnF (T.done (X.blk s3 (upd Ha D (.dT [])) scope ce fp) rfl rfl rfl calm i [] t1 _ Hb (fun _ _ => False) I1 (pinned I1 free) z1 stop) fun r t2 ⟨er, I2⟩ => ?_
      subst er
      have Iz : Inv X pins σ Hb t2 := Ib.call' (ch := fp) I2.os I2.base I2.hok I2.bare fun b hb =>
        have f := (f3 b hb).1.2
        ⟨f.2.2.1, f.1, f.2.2.2.1, f.2.2.2.2⟩
      obtain ⟨ms, hns, _⟩ := I2.loc
      have hns : t2.heap.Ns ce.locals ms := hns
      have nl : Hb ce.locals = none := I2.free
      rw [cl] at hns nl
      exact leave D _ t2 ms Hb Iz hQ hns (Ib.fpOk (Nat.le_refl _) nl)
    · refine thnF (T.item (X.blk s3 (upd Ha D (.dT [])) scope ce fp) rfl rfl rfl calm i [] t1 _ Hb (fun _ _ => False) I1 (pinned I1 free) z1 go) fun r t2 ⟨u, er, a2⟩ => ?_
      subst er
      refine thnF a2 fun _ t3 ⟨x, Hc, I3, rx, y3, z3, free3⟩ => ?_
      refine thnF (G.run _ t3 _ Hc x u _ (I3.pinned (pinned I3 free3) (T.obj _ _ z3)) rx (step x Hc y3)) fun _ t4 ⟨σ2, H2, I4, ew, q4⟩ => ?_
      refine thnF (S.run _ t4 σ2 H2 _ I4 q4) fun b t5 ⟨H3, I5, q5⟩ => ?_
      -- how a turn ends, in the room of the block
      have close : ∀ {t : Shared} {H' : Hp}, Inv (X.blk s3 (upd Ha D (.dT [])) scope ce fp) ([] ++ pinsAt fp t3.heap) σ2 H' t → N H' → ∃ m, m < n ∧ Keep m t := by
        intro t H' I' hN
        obtain ⟨m', hm, w'⟩ := less H' hN
        have still : ∀ b ∈ fp, ∀ o, t3.heap.get? b = some o → t.heap.get? b = some o ∧ H' b = none := by
          intro b hb o e
          have p := I'.pin (b, o) (List.mem_append_right _ (List.mem_append_right _ (mem_pinsAt hb e)))
          exact ⟨p.1, p.2.1⟩
        have len : (wipe σ (own.map (·.2))).length = σ2.length := by rw [← ew]; exact wipe_length _ _
        refine ⟨m', hm, i + 1, H', (I'.unpinned (pins := [])).weak len fun j v e => ?_, T.keep _ _ _ z3 fun b hb o e => (still b hb o e).1, fun b hb => ?_, w'⟩
        · rw [← ew] at e; exact (wipe_some e).1
        · have ⟨o, e, _⟩ := T.obj _ _ z3 b hb
          exact (still b hb o e).2
      cases b with
      | false => exact close I5 q5
      | true =>
        refine thnF (Kx.run _ t5 σ2 H3 _ I5 q5) fun ku t6 ⟨y, H4, I6, ry, q6⟩ => ?_
        refine thnF (Vx.run _ t6 σ2 H4 _ I6 q6) fun vu t7 ⟨z, H5, I7, rz, q7⟩ => ?_
        exact thn (put_runs (Y := X.blk s3 (upd Ha D (.dT [])) scope ce fp) few I7 ry rz q7) fun _ t8 ⟨H6, I8, n8⟩ => close I8 n8
  have whole := codeAny_compStart_dict runs (T.self X.A 0 _ _ _ st4 runs)
  rw [ece, es4] at whole
  exact whole
/-- as a value -/
theorem pe_dcT {kx vx tg iter : Expr} {ifs : List Expr} {scope : Scope} {own : List (Str × Nat)} {pos : Pos} {wi : TI} {g : TG} {tt : TT} {tk tv : TE} (calm : X.calm = true) (few : X.A.units < cLine) (nd : X.N.Nodup) (pi : PI X tg iter wi) (bk : BlkOk X.N X.env.scope scope own)
    (pg : InBlkD X scope fun Y => PG Y tg g) (pt : InBlkD X scope fun Y => PTs Y ifs tt) (pk : InBlkD X scope fun Y => PE Y kx tk) (pv : InBlkD X scope fun Y => PE Y vx tv) (fold : ∀ x, foldedSetIterable iter X.env x = pure x := by intro _; rfl) :
    PE X (.DictComp kx vx [⟨tg, iter, ifs, 0⟩] scope pos) (tDcT wi g tt tk tv (own.map (·.2))) := by
  constructor
  intro pins s σ H Q I h
  rw [arm_eval_DictComp]
  refine dcT_core calm few nd I pi bk pg pt pk pv fold h fun D C t ms H' I' hQ hns f => ⟨ms, hns, fun h2 sb => ?_⟩
  exact ⟨.ref D, H', I'.turned (t' := t.toks) (fun b o hb e => (sb.2 b hb).trans e) f.1 f.2.1 f.2.2.2.1 f.2.2.2.2.1 f.2.2.2.2.2, rfl, hQ⟩
/-- name = {..} on one line, the name a local that no inner block reads -/
theorem ps_setDcT {i : Nat} {y : Str} {py : Pos} {kx vx tg iter : Expr} {ifs : List Expr} {scope : Scope} {own : List (Str × Nat)} {pos spos : Pos} {wi : TI} {g : TG} {tt : TT} {tk tv : TE} (calm : X.calm = true) (few : X.A.units < cLine) (nd : X.N.Nodup) (iy : X.N[i]? = some y) (ly : X.env.scope.names.lookup y = some .local)
    (sw : swapsWith (.DictComp kx vx [⟨tg, iter, ifs, 0⟩] scope pos) (some (.Name y py)) spos.line X.env = pure true) (pi : PI X tg iter wi) (bk : BlkOk X.N X.env.scope scope own)
    (pg : InBlkD X scope fun Y => PG Y tg g) (pt : InBlkD X scope fun Y => PTs Y ifs tt) (pk : InBlkD X scope fun Y => PE Y kx tk) (pv : InBlkD X scope fun Y => PE Y vx tv) (fold : ∀ x, foldedSetIterable iter X.env x = pure x := by intro _; rfl) :
    PS X (.Assign [.Name y py] (.DictComp kx vx [⟨tg, iter, ifs, 0⟩] scope pos) spos) (tAsg (tDcT wi g tt tk tv (own.map (·.2))) (gName i)) := by
  constructor
  intro pins s σ H E I h
  have h : tDcT wi g tt tk tv (own.map (·.2)) σ H (fun x H1 => gName i x σ H1 E.nx) := h
  rw [exec_Assign_Name_used _ _ _ _ sw]
  refine wpAny_bind (wpAny_standAt (wpAny_bind ?_))
  have main := dcT_core (pos := pos) (pos' := firstIterPos [⟨tg, iter, ifs, 0⟩] pos) (use := some (assign (.Name y py) X.env)) (Qf := fun _ t => SP X pins E .next t) calm few nd I pi bk pg pt pk pv fold h ?_
  · exact wpAny_bind (thn main fun _ t hq => wpAny_pure (wpAny_pure hq))
  · intro D C t ms H' I' hQ hns f
    show wpAny (model X.prog X.w) X.A (assign (.Name y py) X.env (.ref D)) _ _ _
    refine wpAny_assign_Name (store_ok2 (v := V.ref D) I' nd iy (.inl ly) rfl (fun t2 I2 ⟨a, sb, ha⟩ => ?_) (.inr ly))
    have ne : C ≠ a := ha.elim (fun z => z ▸ f.2.1) fun z e => f.2.2.2.2.1 y a z e.symm
    refine ⟨ms, hns.sameBut sb ne, fun h3 sb3 => ⟨_, H', ?_, hQ⟩⟩
    exact I2.turned (t' := t2.toks) (fun b o hb e => (sb3.2 b hb).trans e) f.1 f.2.1 f.2.2.2.1 f.2.2.2.2.1 f.2.2.2.2.2
theorem sw_dict {kx vx : Expr} {gs : List Comprehension} {scope : Scope} {pos py : Pos} {y : Str} {l : Nat} {env : Env} (fn : env.scope.kind = .function) (loc : env.scope.names.lookup y = some .local) (line : (py.line == pos.line) = true)
    (none : (scope.names.any fun (n, k) => n == y && (k == .local || k == .cell)) = false) : swapsWith (.DictComp kx vx gs scope pos) (some (.Name y py)) l env = pure true := by
  have k1 : env.kindOf y = some .local := loc
  have k2 : env.blockKind = .function := by unfold Env.blockKind; rw [fn]; rfl
  unfold swapsWith
  simp only [k1, k2, none, line, Expr.pos]
  rfl
end
/-- over any walk: Pv by the turn and the heap -/
theorem dcT_it {J : It} {n : Nat} {G : Hp → Prop} {Y : Nat → Hp → V → Hp → Prop} (w : Walk J n G Y) {g : TG} {tt : TT} {tk tv : TE} {own : List Nat} {σ : L2.St} {Ha : Hp} {D : Addr} {Qd : Hp → Prop} (Pv : Nat → Hp → Prop) (start : Pv 0 (upd Ha D (.dT []))) (stays : ∀ i H, i ≤ n → Pv i H → G H)
    (turn : ∀ i x H H', i < n → Pv i H → Y i H x H' → g x (wipe σ own) H' fun σ2 H2 => wipe σ2 own = wipe σ own ∧ tt σ2 H2 fun b H3 => if b = true then tk σ2 H3 fun y H4 => tv σ2 H4 fun z H5 => PutT D y z H5 (Pv (i + 1)) else Pv (i + 1) H3)
    (after : ∀ H, Pv n H → Qd H) :
    ∃ W : Nat → Nat → Hp → Prop, (∃ m, W 0 m (upd Ha D (.dT []))) ∧ ∀ i m Hb, W i m Hb → (J.stop i Hb ∧ Qd Hb) ∨
      (J.go i Hb ∧ ∃ N : Hp → Prop, (∀ Hc, N Hc → ∃ m', m' < m ∧ W (i + 1) m' Hc) ∧ ∀ x Hc, J.yld i Hb x Hc →
        g x (wipe σ own) Hc fun σ2 H2 => wipe σ2 own = wipe σ own ∧ tt σ2 H2 fun b H3 => if b = true then tk σ2 H3 fun y H4 => tv σ2 H4 fun z H5 => PutT D y z H5 N else N H3) := by
  refine ⟨fun i m H => m + i = n ∧ Pv i H, ⟨n, by omega, start⟩, fun i m Hb h => ?_⟩
  have ⟨e, p⟩ := h
  have ok := stays i Hb (by omega) p
  rcases Nat.lt_or_ge i n with lt | ge
  · refine .inr ⟨w.goes i Hb lt ok, Pv (i + 1), fun Hc q => ⟨m - 1, by omega, by omega, q⟩, fun x Hc y => turn i x Hb Hc lt p (w.yields i Hb x Hc lt ok y)⟩
  · obtain rfl : i = n := by omega
    exact .inl ⟨w.stops Hb ok, after Hb p⟩
end Vf

set_option Elab.async false
set_option linter.all false
set_option maxRecDepth 100000
set_option maxHeartbeats 4000000
namespace Vf
open PySem PySem.Spec PyProof.Rows L2 TL
/-! ### the greatest of a row -/
def mx : List Nat → Option Nat
  | [] => none
  | x :: r => some (max x ((mx r).getD 0))
theorem mx_nil {l : List Nat} : mx l = none ↔ l = [] := by
  cases l with
  | nil => exact ⟨fun _ => rfl, fun _ => rfl⟩
  | cons x r => exact ⟨(fun h => by cases h), (fun h => by cases h)⟩
theorem mx_spec : ∀ {l : List Nat} {m : Nat}, mx l = some m → m ∈ l ∧ ∀ x ∈ l, x ≤ m
  | [], _, h => by cases h
  | x :: r, m, h => by
    have h0 : max x ((mx r).getD 0) = m := Option.some.inj h
    clear h
    cases hr : mx r with
    | none =>
      rw [hr] at h0
      have e := mx_nil.mp hr
      subst e
      have h : max x 0 = m := h0
      clear h0
      rw [Nat.max_zero] at h
      subst h
      exact ⟨List.mem_cons_self, fun y hy => by rw [List.mem_singleton.mp hy]; exact Nat.le_refl _⟩
    | some k =>
      rw [hr] at h0
      have h : max x k = m := h0
      have ⟨h1, h2⟩ := mx_spec hr
      refine ⟨?_, fun y hy => ?_⟩
      · by_cases c : x ≤ k
        · rw [Nat.max_eq_right c] at h; rw [← h]; exact List.mem_cons_of_mem _ h1
        · rw [Nat.max_eq_left (by omega)] at h; rw [← h]; exact List.mem_cons_self
      · rcases List.mem_cons.mp hy with e | e
        · rw [e, ← h]; exact Nat.le_max_left _ _
        · have := h2 y e
          rw [← h]; exact Nat.le_trans this (Nat.le_max_right _ _)
theorem mx_of {l : List Nat} {m : Nat} (h1 : m ∈ l) (h2 : ∀ x ∈ l, x ≤ m) : mx l = some m := by
  cases h : mx l with
  | none => rw [mx_nil.mp h] at h1; cases h1
  | some k =>
    have ⟨a, b⟩ := mx_spec h
    have := h2 k a
    have := b m h1
    rw [show k = m by omega]
theorem mx_same {l l' : List Nat} (h : ∀ x, x ∈ l ↔ x ∈ l') : mx l = mx l' := by
  cases e : mx l with
  | none =>
    have e := mx_nil.mp e
    subst e
    cases l' with
    | nil => rfl
    | cons x r => exact absurd ((h x).mpr List.mem_cons_self) (by simp)
  | some m =>
    have ⟨a, b⟩ := mx_spec e
    exact (mx_of ((h m).mp a) fun x hx => b x ((h x).mpr hx)).symm
theorem mx_snoc (l : List Nat) (x : Nat) : mx (l ++ [x]) = some (max ((mx l).getD 0) x) := by
  cases e : mx l with
  | none => rw [mx_nil.mp e]; show some (max x 0) = some (max 0 x); rw [Nat.max_comm]
  | some m =>
    have ⟨a, b⟩ := mx_spec e
    show _ = some (max m x)
    refine mx_of ?_ fun y hy => ?_
    · by_cases c : m ≤ x
      · rw [Nat.max_eq_right c]; exact List.mem_append_right _ (List.mem_singleton.mpr rfl)
      · rw [Nat.max_eq_left (by omega)]; exact List.mem_append_left _ a
    · rcases List.mem_append.mp hy with h | h
      · exact Nat.le_trans (b y h) (Nat.le_max_left _ _)
      · rw [List.mem_singleton.mp h]; exact Nat.le_max_right _ _
/-! ### demands -/
def msR (p q : Nat) (r : Arc) : Option Nat := if r.1 = p ∧ r.1 + r.2.1 = q then some (r.2.2 + 1) else none
def ms (cs : List Arc) (p q : Nat) : List Nat := cs.filterMap (msR p q)
def msI (p q : Int) (r : Arc) : Option Nat := if (r.1 : Int) = p ∧ (r.1 : Int) + (r.2.1 : Int) = q then some (r.2.2 + 1) else none
def demI (cs : List Arc) (p q : Int) : Option Nat := mx (cs.filterMap (msI p q) ++ if q = p + 1 then [1] else [])
def demT (n : Nat) (cs : List Arc) (p q : Int) : Option Nat := mx ((if q = p + 1 ∧ 0 ≤ p ∧ p < (n : Int) then [1] else []) ++ cs.filterMap (msI p q))
def dem (cs : List Arc) (p q : Nat) : Option Nat := mx (ms cs p q ++ if q = p + 1 then [1] else [])
theorem msI_snoc (cs : List Arc) (r : Arc) (p q : Int) : (cs ++ [r]).filterMap (msI p q) = cs.filterMap (msI p q) ++ (msI p q r).toList := by
  rw [List.filterMap_append]
  cases h : msI p q r with
  | none => rw [List.filterMap_cons_none h]; rfl
  | some x => rw [List.filterMap_cons_some h]; rfl
theorem demI_nat (cs : List Arc) (p q : Nat) : demI cs (p : Int) (q : Int) = dem cs p q := by
  unfold demI dem ms
  have e1 : msI (p : Int) (q : Int) = msR p q := by
    funext r
    unfold msI msR
    by_cases c : r.1 = p ∧ r.1 + r.2.1 = q
    · rw [if_pos c, if_pos (by omega)]
    · rw [if_neg c, if_neg (by omega)]
  rw [e1]
  by_cases c : q = p + 1
  · rw [if_pos c, if_pos (by omega)]
  · rw [if_neg c, if_neg (by omega)]
theorem demT_int {n : Nat} {cs : List Arc} {p q : Int} (h0 : 0 ≤ p) (h : p < (n : Int)) : demT n cs p q = demI cs p q := by
  refine mx_same fun x => ?_
  have e : (q = p + 1 ∧ 0 ≤ p ∧ p < (n : Int)) ↔ q = p + 1 := ⟨fun z => z.1, fun z => ⟨z, h0, h⟩⟩
  rw [List.mem_append, List.mem_append]
  by_cases c : q = p + 1
  · rw [if_pos (e.mpr c), if_pos c]; exact Or.comm
  · rw [if_neg (fun z => c z.1), if_neg c]; exact Or.comm
theorem demT_eq {n : Nat} {cs : List Arc} {p q : Nat} (h : p < n) : demT n cs (p : Int) (q : Int) = dem cs p q := by
  rw [demT_int (by omega) (by omega), demI_nat]
theorem demT_snoc (n : Nat) (cs : List Arc) (r : Arc) (p q : Int) : demT n (cs ++ [r]) p q = if (r.1 : Int) = p ∧ (r.1 : Int) + (r.2.1 : Int) = q then some (max ((demT n cs p q).getD 1) (r.2.2 + 1)) else demT n cs p q := by
  by_cases c : (r.1 : Int) = p ∧ (r.1 : Int) + (r.2.1 : Int) = q
  · rw [if_pos c]
    have e : msI p q r = some (r.2.2 + 1) := if_pos c
    unfold demT
    rw [msI_snoc, e]
    show mx (_ ++ (cs.filterMap (msI p q) ++ [r.2.2 + 1])) = _
    rw [← List.append_assoc, mx_snoc]
    cases mx ((if q = p + 1 ∧ 0 ≤ p ∧ p < (n : Int) then [1] else []) ++ cs.filterMap (msI p q)) with
    | none => show some (max 0 (r.2.2 + 1)) = some (max 1 (r.2.2 + 1)); rw [Nat.max_eq_right (by omega), Nat.max_eq_right (by omega)]
    | some m => rfl
  · rw [if_neg c]
    have e : msI p q r = none := if_neg c
    unfold demT
    rw [msI_snoc, e]
    show mx (_ ++ (cs.filterMap (msI p q) ++ [])) = _
    rw [List.append_nil]
theorem dem_next (cs : List Arc) (p : Nat) : ∃ e, dem cs p (p + 1) = some e := by
  cases h : dem cs p (p + 1) with
  | some e => exact ⟨e, rfl⟩
  | none =>
    unfold dem at h
    rw [if_pos rfl] at h
    exact absurd (mx_nil.mp h) (by simp)
theorem dem_same {cs cs' : List Arc} (h : ∀ r, r ∈ cs ↔ r ∈ cs') (p q : Nat) : dem cs p q = dem cs' p q := by
  refine mx_same fun x => ?_
  unfold ms
  rw [List.mem_append, List.mem_append, List.mem_filterMap, List.mem_filterMap]
  constructor
  · rintro (⟨r, hr, e⟩ | e)
    · exact .inl ⟨r, (h r).mp hr, e⟩
    · exact .inr e
  · rintro (⟨r, hr, e⟩ | e)
    · exact .inl ⟨r, (h r).mpr hr, e⟩
    · exact .inr e
/-! ### boundaries -/
/-- what a boundary n can be by the ones ahead -/
def cand (cs : List Arc) (bs : List Nat) (n : Nat) : Nat → Option Nat := fun a => (dem cs a n).map fun e => bs.getD a 0 + e
def bl (cs : List Arc) : Nat → List Nat
  | 0 => [0]
  | n + 1 => bl cs n ++ [(mx ((List.range (n + 1)).filterMap (cand cs (bl cs n) (n + 1)))).getD 0]
theorem bl_len (cs : List Arc) : ∀ n, (bl cs n).length = n + 1
  | 0 => rfl
  | n + 1 => by show (bl cs n ++ [_]).length = _; rw [List.length_append, bl_len cs n]; rfl
def smRow (cs : List Arc) (ss : List (List Nat)) (n : Nat) : Nat → List Nat := fun a => match dem cs a n with
  | none => []
  | some e => (ss.getD a []).map (· + e)
def sm (cs : List Arc) : Nat → List (List Nat)
  | 0 => [[0]]
  | n + 1 => sm cs n ++ [(List.range (n + 1)).flatMap (smRow cs (sm cs n) (n + 1))]
theorem sm_len (cs : List Arc) : ∀ n, (sm cs n).length = n + 1
  | 0 => rfl
  | n + 1 => by show (sm cs n ++ [_]).length = _; rw [List.length_append, sm_len cs n]; rfl
theorem cand_ne {cs : List Arc} {bs : List Nat} (n : Nat) : ∃ v, mx ((List.range (n + 1)).filterMap (cand cs bs (n + 1))) = some v := by
  cases h : mx ((List.range (n + 1)).filterMap (cand cs bs (n + 1))) with
  | some v => exact ⟨v, rfl⟩
  | none =>
    obtain ⟨e, he⟩ := dem_next cs n
    have : bs.getD n 0 + e ∈ (List.range (n + 1)).filterMap (cand cs bs (n + 1)) := List.mem_filterMap.mpr ⟨n, List.mem_range.mpr (Nat.lt_succ_self n), by unfold cand; rw [he]; rfl⟩
    rw [mx_nil.mp h] at this
    cases this
theorem getD_left {α : Type} {l m : List α} {d : α} {i : Nat} (h : i < l.length) : (l ++ m).getD i d = l.getD i d := by
  rw [List.getD_eq_getElem?_getD, List.getD_eq_getElem?_getD, List.getElem?_append_left h]
theorem getD_last {α : Type} {l : List α} {x d : α} {i : Nat} (h : i = l.length) : (l ++ [x]).getD i d = x := by
  subst h
  rw [List.getD_eq_getElem?_getD, List.getElem?_append_right (Nat.le_refl _), Nat.sub_self]; rfl
theorem sm_bl (cs : List Arc) : ∀ n i, i ≤ n → mx ((sm cs n).getD i []) = some ((bl cs n).getD i 0)
  | 0, i, h => by
    have : i = 0 := by omega
    subst this
    rfl
  | n + 1, i, h => by
    by_cases hi : i ≤ n
    · show mx ((sm cs n ++ [_]).getD i []) = some ((bl cs n ++ [_]).getD i 0)
      rw [getD_left (by rw [sm_len]; omega), getD_left (by rw [bl_len]; omega)]
      exact sm_bl cs n i hi
    · have : i = n + 1 := by omega
      subst this
      show mx ((sm cs n ++ [_]).getD (n + 1) []) = some ((bl cs n ++ [_]).getD (n + 1) 0)
      rw [getD_last (by rw [sm_len]), getD_last (by rw [bl_len])]
      obtain ⟨v, hv⟩ := cand_ne (cs := cs) (bs := bl cs n) n
      rw [hv]
      show _ = some v
      have ⟨h1, h2⟩ := mx_spec hv
      obtain ⟨a, ha, ea⟩ := List.mem_filterMap.mp h1
      refine mx_of ?_ ?_
      · rw [List.mem_flatMap]
        refine ⟨a, ha, ?_⟩
        have ha := List.mem_range.mp ha
        unfold cand at ea
        unfold smRow
        cases hd : dem cs a (n + 1) with
        | none => rw [hd] at ea; cases ea
        | some e =>
          rw [hd] at ea
          have ea : (bl cs n).getD a 0 + e = v := Option.some.inj ea
          have ⟨g1, _⟩ := mx_spec (sm_bl cs n a (by omega))
          exact List.mem_map.mpr ⟨_, g1, ea⟩
      · intro x hx
        obtain ⟨b, hb, hx⟩ := List.mem_flatMap.mp hx
        have hb2 := List.mem_range.mp hb
        unfold smRow at hx
        cases hd : dem cs b (n + 1) with
        | none => rw [hd] at hx; cases hx
        | some e =>
          rw [hd] at hx
          obtain ⟨y, hy, rfl⟩ := List.mem_map.mp hx
          have ⟨_, g2⟩ := mx_spec (sm_bl cs n b (by omega))
          have := g2 y hy
          have : (bl cs n).getD b 0 + e ≤ v := h2 _ (List.mem_filterMap.mpr ⟨b, hb, by unfold cand; rw [hd]; rfl⟩)
          show y + e ≤ v
          omega
theorem bl_same {cs cs' : List Arc} (h : ∀ r, r ∈ cs ↔ r ∈ cs') : ∀ n, bl cs n = bl cs' n
  | 0 => rfl
  | n + 1 => by
    show bl cs n ++ [(mx ((List.range (n + 1)).filterMap (cand cs (bl cs n) (n + 1)))).getD 0] = bl cs' n ++ [(mx ((List.range (n + 1)).filterMap (cand cs' (bl cs' n) (n + 1)))).getD 0]
    have e : cand cs (bl cs n) (n + 1) = cand cs' (bl cs' n) (n + 1) := by
      funext a
      unfold cand
      rw [bl_same h n, dem_same h]
    rw [e, bl_same h n]
/-- how long the rows get -/
theorem fm_size {cs : List Arc} {n : Nat} (h : ∀ i, i ≤ n → ((sm cs n).getD i []).length ≤ 2 ^ i) : ∀ m, m ≤ n + 1 → ((List.range m).flatMap (smRow cs (sm cs n) (n + 1))).length + 1 ≤ 2 ^ m := by
  intro m
  induction m with
  | zero => intro _; exact Nat.le_refl 1
  | succ m ih =>
    intro hm
    have h1 := ih (by omega)
    rw [List.range_succ, List.flatMap_append, List.length_append]
    have h2 : (([m] : List Nat).flatMap (smRow cs (sm cs n) (n + 1))).length ≤ 2 ^ m := by
      rw [List.flatMap_singleton]
      unfold smRow
      cases dem cs m (n + 1) with
      | none => exact Nat.zero_le _
      | some e =>
        show (((sm cs n).getD m []).map (· + e)).length ≤ _
        rw [List.length_map]
        exact h m (by omega)
    rw [Nat.pow_succ]
    omega
theorem sm_size (cs : List Arc) : ∀ n i, i ≤ n → ((sm cs n).getD i []).length ≤ 2 ^ i
  | 0, i, h => by
    have : i = 0 := by omega
    subst this
    exact Nat.le_refl 1
  | n + 1, i, h => by
    by_cases hi : i ≤ n
    · show ((sm cs n ++ [_]).getD i []).length ≤ _
      rw [getD_left (by rw [sm_len]; omega)]
      exact sm_size cs n i hi
    · have : i = n + 1 := by omega
      subst this
      show ((sm cs n ++ [_]).getD (n + 1) []).length ≤ _
      rw [getD_last (by rw [sm_len])]
      have := fm_size (sm_size cs n) (n + 1) (Nat.le_refl _)
      omega
end Vf

set_option Elab.async false
set_option linter.all false
set_option maxRecDepth 100000
set_option maxHeartbeats 4000000
namespace Vf
open PySem PySem.Spec PyProof.Rows L2 TL
/-! ### rows of cells in another order, slices of tuples -/
/-- the cells of a row that holds the same things -/
theorem cells_perm {H : Hp} {us ws : List V} {ds : List Arc} (lv : LV (ArcV H) ws ds) (hp : us.Perm ws) : ∃ ds' : List Arc, LV (ArcV H) us ds' ∧ (∀ r, r ∈ ds' → r ∈ ds) ∧ (∀ r, r ∈ ds → r ∈ ds') := by
  -- each thing of us is a cell of ds
  have one : ∀ x ∈ us, ∃ r, r ∈ ds ∧ ArcV H x r := by
    intro x hx
    obtain ⟨i, hi, e⟩ := List.mem_iff_getElem.mp (hp.mem_iff.mp hx)
    obtain ⟨r, hr, h⟩ := lv.at (i := i) (x := x) (by rw [List.getElem?_eq_getElem hi, e])
    exact ⟨r, List.mem_of_getElem? hr, h⟩
  have make : ∀ l : List V, (∀ x ∈ l, ∃ r, r ∈ ds ∧ ArcV H x r) → ∃ ds' : List Arc, LV (ArcV H) l ds' ∧ ∀ r, r ∈ ds' → r ∈ ds := by
    intro l
    induction l with
    | nil => exact fun _ => ⟨[], LV.nil, fun _ h => nomatch h⟩
    | cons x l ih =>
      intro h
      obtain ⟨r, hr, hx⟩ := h x List.mem_cons_self
      obtain ⟨ds', h1, h2⟩ := ih fun y hy => h y (List.mem_cons_of_mem _ hy)
      refine ⟨r :: ds', ⟨by rw [List.length_cons, List.length_cons, h1.1], fun i q e => ?_⟩, fun y hy => ?_⟩
      · cases i with
        | zero => exact ⟨x, rfl, by rw [← Option.some.inj e]; exact hx⟩
        | succ i => exact h1.2 i q e
      · rcases List.mem_cons.mp hy with e | e
        · rw [e]; exact hr
        · exact h2 y e
  obtain ⟨ds', h1, h2⟩ := make us one
  refine ⟨ds', h1, h2, fun r hr => ?_⟩
  obtain ⟨i, hi, e⟩ := List.mem_iff_getElem.mp hr
  obtain ⟨x, gx, hx⟩ := lv.2 i r (by rw [List.getElem?_eq_getElem hi, e])
  obtain ⟨j, hj, e2⟩ := List.mem_iff_getElem.mp (hp.mem_iff.mpr (List.mem_of_getElem? gx))
  obtain ⟨r', hr', hx'⟩ := h1.at (i := j) (x := x) (by rw [List.getElem?_eq_getElem hj, e2])
  -- one thing holds one cell
  obtain ⟨b, eb, hb⟩ := hx
  obtain ⟨b', eb', hb'⟩ := hx'
  rw [eb] at eb'
  have := V.ref.inj eb'
  subst this
  rw [hb] at hb'
  have h := HO.tup.inj (Option.some.inj hb')
  have h3 := List.cons.inj h
  have h4 := List.cons.inj h3.2
  have h5 := List.cons.inj h4.2
  have : r = r' := by
    have a1 : r.1 = r'.1 := Int.ofNat.inj (V.int.inj h3.1)
    have a2 : r.2.1 = r'.2.1 := Int.ofNat.inj (V.int.inj h4.1)
    have a3 : r.2.2 = r'.2.2 := Int.ofNat.inj (V.int.inj h5.1)
    exact Prod.ext a1 (Prod.ext a2 a3)
  rw [this]
  exact List.mem_of_getElem? hr'
theorem LV.app {α : Type} {R : V → α → Prop} {vs us : List V} {rs qs : List α} (h : LV R vs rs) (g : LV R us qs) : LV R (vs ++ us) (rs ++ qs) := by
  refine ⟨by rw [List.length_append, List.length_append, h.1, g.1], fun i r e => ?_⟩
  by_cases hi : i < rs.length
  · rw [List.getElem?_append_left hi] at e
    obtain ⟨x, e1, e2⟩ := h.2 i r e
    exact ⟨x, by rw [List.getElem?_append_left (by rw [h.1]; exact hi)]; exact e1, e2⟩
  · rw [List.getElem?_append_right (by omega)] at e
    obtain ⟨x, e1, e2⟩ := g.2 _ r e
    exact ⟨x, by rw [List.getElem?_append_right (by rw [h.1]; omega), h.1]; exact e1, e2⟩
theorem LV.takeN {α : Type} {R : V → α → Prop} {vs : List V} {rs : List α} (n : Nat) (h : LV R vs rs) : LV R (vs.take n) (rs.take n) := by
  refine ⟨by rw [List.length_take, List.length_take, h.1], fun i r e => ?_⟩
  rw [List.getElem?_take] at e
  by_cases c : i < n
  · rw [if_pos c] at e
    obtain ⟨x, e1, e2⟩ := h.2 i r e
    exact ⟨x, by rw [List.getElem?_take, if_pos c]; exact e1, e2⟩
  · rw [if_neg c] at e; cases e
theorem cut_one (xs : List V) : cutV xs none (some 1) = xs.take 1 := by
  unfold cutV
  rw [HT.sIx_none, show (some (1 : Int)) = some ((1 : Nat) : Int) from rfl, HT.sIx_nat, List.drop_zero, Nat.sub_zero]
  cases xs with
  | nil => rfl
  | cons x r => rw [Nat.min_eq_left (by rw [List.length_cons]; omega)]
theorem slA_any {K : PySem.W.Frag} {a : Addr} {xs : List V} {lo hi : Option Int} {H : Hp} {Q : VK} (e : H a = some (.tup xs)) (q : ∀ b H', Same H H' → H' b = some (.tup (cutV xs lo hi)) → Q (.ref b) H') : rSlA K (.ref a) lo hi H Q := by
  refine ⟨a, xs, rfl, SqT.of e, fun ⟨h1, h2⟩ => q a H (Same.refl H) ?_, fun _ p np => q p _ (same_upd (Same.refl H) np) upd_same⟩
  rw [e]
  unfold cutV
  rw [h1, h2, List.drop_zero, Nat.sub_zero, List.take_length]
theorem cut_from1 (xs : List V) : cutV xs (some 1) none = xs.drop 1 := by
  unfold cutV
  rw [HT.sIx_none, show (some (1 : Int)) = some ((1 : Nat) : Int) from rfl, HT.sIx_nat]
  cases xs with
  | nil => rfl
  | cons x r =>
    rw [Nat.min_eq_left (by rw [List.length_cons]; omega)]
    show r.take (r.length + 1 - 1) = r
    rw [Nat.add_sub_cancel, List.take_length]
theorem slA_from {K : PySem.W.Frag} {a : Addr} {xs : List V} {lo : Option Int} {H : Hp} {Q : VK} {σ : L2.St} (e : H a = some (.tup xs)) (q : ∀ b H', Same H H' → H' b = some (.tup (cutV xs lo none)) → Q (.ref b) H') : tNoPart σ H (fun u H3 => rSlA K (.ref a) lo u H3 Q) :=
  slA_any e q
end Vf

set_option Elab.async false
set_option linter.all false
set_option maxRecDepth 100000
set_option maxHeartbeats 4000000
namespace Vf
open PySem PySem.Spec PyProof.Rows L2 TL
/-! ### least totals along arcs: f the bounds, g the tails, of the arcs Pr -/
structure Bd (Pr : Arc → Prop) (f g : Nat → Option Nat) : Prop where
  z : f 0 = some 0 ∧ g 0 = none
  s : ∀ v y, v ≠ 0 → f v = some y → ∃ u c x, g v = some u ∧ Pr (u, v, c) ∧ f u = some x ∧ y = x + c ∧ ∀ u' c' x', Pr (u', v, c') → f u' = some x' → y ≤ x' + c' ∧ (y = x' + c' → u ≤ u')
  n : ∀ v, v ≠ 0 → f v = none → g v = none ∧ ∀ u' c', Pr (u', v, c') → f u' = none
def fset (f : Nat → Option Nat) (h : Nat) (x : Nat) : Nat → Option Nat := fun j => if j = h then some x else f j
theorem fset_same {f : Nat → Option Nat} {h x : Nat} : fset f h x h = some x := if_pos rfl
theorem fset_ne {f : Nat → Option Nat} {h x j : Nat} (e : j ≠ h) : fset f h x j = f j := if_neg e
theorem Bd.start : Bd (fun _ => False) (fset (fun _ => none) 0 0) (fun _ => none) where
  z := ⟨fset_same, rfl⟩
  s := fun v y hv e => by rw [fset_ne hv] at e; cases e
  n := fun v hv e => ⟨rfl, fun _ _ h => h.elim⟩
theorem Bd.congr {P P' : Arc → Prop} {f g : Nat → Option Nat} (B : Bd P f g) (h : ∀ a, P' a ↔ P a) : Bd P' f g := by
  have : P' = P := funext fun a => propext (h a)
  rw [this]; exact B
theorem Bd.put {Pr : Arc → Prop} {f g : Nat → Option Nat} {t h c x : Nat} (B : Bd Pr f g) (hp : ∀ a, Pr a → a.1 ≤ t) (th : t < h) (ft : f t = some x) (lo : ∀ y, f h = some y → x + c < y) :
    Bd (fun a => Pr a ∨ a = (t, h, c)) (fset f h (x + c)) (fset g h t) where
  z := ⟨by rw [fset_ne (by omega)]; exact B.z.1, by rw [fset_ne (by omega)]; exact B.z.2⟩
  s := fun v y hv e => by
    by_cases hh : v = h
    · subst hh
      rw [fset_same] at e
      have e := Option.some.inj e
      refine ⟨t, c, x, fset_same, .inr rfl, by rw [fset_ne (by omega)]; exact ft, e.symm, fun u' c' x' hP e' => ?_⟩
      rcases hP with hP | hP
      · have hu := hp _ hP
        have hu : u' ≤ t := hu
        rw [fset_ne (by omega)] at e'
        cases q : f v with
        | none => rw [(B.n v hv q).2 u' c' hP] at e'; cases e'
        | some y0 =>
          obtain ⟨_, _, _, _, _, _, _, H⟩ := B.s v y0 hv q
          have := H u' c' x' hP e'
          have := lo y0 q
          omega
      · cases hP
        rw [fset_ne (by omega), ft] at e'
        have := Option.some.inj e'
        omega
    · rw [fset_ne hh] at e
      obtain ⟨u, c0, x0, h1, h2, h3, h4, H⟩ := B.s v y hv e
      have hu : u ≤ t := hp _ h2
      refine ⟨u, c0, x0, by rw [fset_ne hh]; exact h1, .inl h2, by rw [fset_ne (by omega)]; exact h3, h4, fun u' c' x' hP e' => ?_⟩
      rcases hP with hP | hP
      · have hu' : u' ≤ t := hp _ hP
        rw [fset_ne (by omega)] at e'
        exact H u' c' x' hP e'
      · cases hP
        exact absurd rfl hh
  n := fun v hv e => by
    by_cases hh : v = h
    · subst hh; rw [fset_same] at e; cases e
    · rw [fset_ne hh] at e
      obtain ⟨h1, h2⟩ := B.n v hv e
      refine ⟨by rw [fset_ne hh]; exact h1, fun u' c' hP => ?_⟩
      rcases hP with hP | hP
      · have hu' : u' ≤ t := hp _ hP
        rw [fset_ne (by omega)]
        exact h2 u' c' hP
      · cases hP
        exact absurd rfl hh
theorem Bd.skip {Pr : Arc → Prop} {f g : Nat → Option Nat} {t h c x y : Nat} (B : Bd Pr f g) (hp : ∀ a, Pr a → a.1 ≤ t) (th : t < h) (ft : f t = some x) (fh : f h = some y) (le : y ≤ x + c) :
    Bd (fun a => Pr a ∨ a = (t, h, c)) f g where
  z := B.z
  s := fun v y' hv e => by
    obtain ⟨u, c0, x0, h1, h2, h3, h4, H⟩ := B.s v y' hv e
    refine ⟨u, c0, x0, h1, .inl h2, h3, h4, fun u' c' x' hP e' => ?_⟩
    rcases hP with hP | hP
    · exact H u' c' x' hP e'
    · cases hP
      rw [ft] at e'
      rw [fh] at e
      have e1 := Option.some.inj e'
      have e2 := Option.some.inj e
      have hu : u ≤ t := hp _ h2
      exact ⟨by omega, fun _ => hu⟩
  n := fun v hv e => by
    obtain ⟨h1, h2⟩ := B.n v hv e
    refine ⟨h1, fun u' c' hP => ?_⟩
    rcases hP with hP | hP
    · exact h2 u' c' hP
    · cases hP
      rw [fh] at e; cases e
theorem Bd.none_ {Pr P2 : Arc → Prop} {f g : Nat → Option Nat} (B : Bd Pr f g) (h : ∀ a, P2 a → f a.1 = none) : Bd (fun a => Pr a ∨ P2 a) f g where
  z := B.z
  s := fun v y hv e => by
    obtain ⟨u, c0, x0, h1, h2, h3, h4, H⟩ := B.s v y hv e
    refine ⟨u, c0, x0, h1, .inl h2, h3, h4, fun u' c' x' hP e' => ?_⟩
    rcases hP with hP | hP
    · exact H u' c' x' hP e'
    · have := h _ hP
      have this : f u' = none := this
      rw [this] at e'; cases e'
  n := fun v hv e => by
    obtain ⟨h1, h2⟩ := B.n v hv e
    refine ⟨h1, fun u' c' hP => ?_⟩
    rcases hP with hP | hP
    · exact h2 u' c' hP
    · exact h _ hP
theorem Bd.le {Pr : Arc → Prop} {f g : Nat → Option Nat} (B : Bd Pr f g) {u v c x : Nat} (hP : Pr (u, v, c)) (e : f u = some x) : ∃ y, f v = some y ∧ y ≤ x + c := by
  by_cases hv : v = 0
  · subst hv; exact ⟨0, B.z.1, Nat.zero_le _⟩
  · cases q : f v with
    | none => rw [(B.n v hv q).2 u c hP] at e; cases e
    | some y =>
      obtain ⟨_, _, _, _, _, _, _, H⟩ := B.s v y hv q
      exact ⟨y, rfl, (H u c x hP e).1⟩
/-- the cost of the arc from u to v -/
def cst (as : List Arc) (u v : Nat) : Option Nat := (as.find? fun a => decide (a.1 = u ∧ a.2.1 = v)).map (·.2.2)
theorem cst_mem {as : List Arc} {u v c : Nat} (h : cst as u v = some c) : (u, v, c) ∈ as := by
  unfold cst at h
  cases q : as.find? (fun a => decide (a.1 = u ∧ a.2.1 = v)) with
  | none => rw [q] at h; cases h
  | some a =>
    rw [q] at h
    have h := Option.some.inj h
    have h1 := List.find?_some q
    have h1 := of_decide_eq_true h1
    have h2 := List.mem_of_find?_eq_some q
    obtain ⟨a1, a2, a3⟩ := a
    obtain ⟨rfl, rfl⟩ := h1
    have h : a3 = c := h
    rw [← h]; exact h2
def ArcLt (a b : Arc) : Prop := a.1 < b.1 ∨ a.1 = b.1 ∧ a.2.1 < b.2.1
theorem cst_of {as : List Arc} {u v c : Nat} (pw : as.Pairwise fun a b => a.1 < b.1 ∨ a.1 = b.1 ∧ a.2.1 < b.2.1) (h : (u, v, c) ∈ as) : cst as u v = some c := by
  cases q : cst as u v with
  | some c2 =>
    have h2 := cst_mem q
    obtain ⟨i, hi, ei⟩ := List.mem_iff_getElem.mp h
    obtain ⟨j, hj, ej⟩ := List.mem_iff_getElem.mp h2
    rcases Nat.lt_trichotomy i j with l | l | l
    · have := List.pairwise_iff_getElem.mp pw i j hi hj l
      rw [ei, ej] at this
      simp at this
    · subst l
      rw [ei] at ej
      cases ej; rfl
    · have := List.pairwise_iff_getElem.mp pw j i hj hi l
      rw [ei, ej] at this
      simp at this
  | none =>
    unfold cst at q
    have q2 : as.find? (fun a => decide (a.1 = u ∧ a.2.1 = v)) = none := by
      cases r : as.find? (fun a => decide (a.1 = u ∧ a.2.1 = v)) with
      | none => rfl
      | some a => rw [r] at q; cases q
    have := List.find?_eq_none.mp q2 _ h
    simp at this
theorem cst_take {as : List Arc} {i : Nat} {a : Arc} (pw : as.Pairwise fun a b => a.1 < b.1 ∨ a.1 = b.1 ∧ a.2.1 < b.2.1) (e : as[i]? = some a) (u v : Nat) :
    cst (as.take (i + 1)) u v = if u = a.1 ∧ v = a.2.1 then some a.2.2 else cst (as.take i) u v := by
  obtain ⟨hi, ei⟩ := List.getElem?_eq_some_iff.mp e
  have et : as.take (i + 1) = as.take i ++ [a] := by rw [List.take_succ, e]; rfl
  have pw2 := pw.sublist (List.take_sublist (i + 1) as)
  by_cases c : u = a.1 ∧ v = a.2.1
  · rw [if_pos c, c.1, c.2]
    refine cst_of pw2 ?_
    rw [et]
    exact List.mem_append_right _ (List.mem_singleton.mpr rfl)
  · rw [if_neg c, et]
    unfold cst
    rw [List.find?_append]
    have : [a].find? (fun a => decide (a.1 = u ∧ a.2.1 = v)) = none := by
      rw [List.find?_eq_none]
      intro x hx
      rw [List.mem_singleton.mp hx]
      intro z
      have z := of_decide_eq_true z
      exact c ⟨z.1.symm, z.2.symm⟩
    rw [this, Option.or_none]
def stepT (as : List Arc) (acc : Option Nat) (u v : Nat) : Option Nat := match acc with
  | none => none
  | some x => (cst as u v).map (x + ·)
def totK (as : List Arc) (ns : List Nat) : Nat → Option Nat
  | 0 => some 0
  | k + 1 => stepT as (totK as ns k) (ns.getD k 0) (ns.getD (k + 1) 0)
def tot (as : List Arc) (ns : List Nat) : Option Nat := totK as ns (ns.length - 1)
theorem stepT_some {as : List Arc} {acc : Option Nat} {u v t : Nat} (h : stepT as acc u v = some t) : ∃ x c, acc = some x ∧ (u, v, c) ∈ as ∧ t = x + c := by
  unfold stepT at h
  cases acc with
  | none => cases h
  | some x =>
    have h : (cst as u v).map (x + ·) = some t := h
    cases q : cst as u v with
    | none => rw [q] at h; cases h
    | some c =>
      rw [q] at h
      exact ⟨x, c, rfl, cst_mem q, (Option.some.inj h).symm⟩
theorem stepT_of {as : List Arc} {x u v c : Nat} (pw : as.Pairwise fun a b => a.1 < b.1 ∨ a.1 = b.1 ∧ a.2.1 < b.2.1) (h : (u, v, c) ∈ as) : stepT as (some x) u v = some (x + c) := by
  show (cst as u v).map (x + ·) = _
  rw [cst_of pw h]; rfl
theorem totK_low {as : List Arc} {f g : Nat → Option Nat} (B : Bd (· ∈ as) f g) {ns : List Nat} (h0 : ns.getD 0 0 = 0) : ∀ (k t : Nat), totK as ns k = some t → ∃ y, f (ns.getD k 0) = some y ∧ y ≤ t
  | 0, t, h => ⟨0, by rw [h0]; exact B.z.1, Nat.zero_le _⟩
  | k + 1, t, h => by
    obtain ⟨x, c, e, hm, rfl⟩ := stepT_some h
    obtain ⟨y0, e1, l1⟩ := totK_low B h0 k x e
    obtain ⟨y, e2, l2⟩ := B.le hm e1
    exact ⟨y, e2, by omega⟩
theorem totK_pre {as : List Arc} {ns ms : List Nat} : ∀ k, k < ns.length → totK as (ns ++ ms) k = totK as ns k
  | 0, _ => rfl
  | k + 1, h => by
    show stepT as (totK as (ns ++ ms) k) _ _ = stepT as (totK as ns k) _ _
    rw [totK_pre k (by omega)]
    have e : ∀ j, j < ns.length → (ns ++ ms).getD j 0 = ns.getD j 0 := fun j hj => by
      rw [List.getD_eq_getElem?_getD, List.getD_eq_getElem?_getD, List.getElem?_append_left hj]
    rw [e k (by omega), e (k + 1) h]
theorem tot_snoc {as : List Arc} {ns : List Nat} (u v : Nat) (hl : 0 < ns.length) (hu : ns.getD (ns.length - 1) 0 = u) : tot as (ns ++ [v]) = stepT as (tot as ns) u v := by
  unfold tot
  rw [List.length_append]
  show totK as (ns ++ [v]) (ns.length + 1 - 1) = _
  obtain ⟨m, hm⟩ : ∃ m, ns.length = m + 1 := ⟨ns.length - 1, by omega⟩
  rw [hm] at hu ⊢
  show stepT as (totK as (ns ++ [v]) m) _ _ = stepT as (totK as ns m) u v
  rw [totK_pre m (by omega)]
  have e1 : (ns ++ [v]).getD m 0 = u := by
    rw [List.getD_eq_getElem?_getD, List.getElem?_append_left (by omega), ← List.getD_eq_getElem?_getD]; exact hu
  have e2 : (ns ++ [v]).getD (m + 1) 0 = v := by
    rw [List.getD_eq_getElem?_getD, List.getElem?_append_right (by omega), hm]
    simp
  rw [e1, e2]
def mids (b : Nat → Bool) (n : Nat) : List Nat := (List.range n).filterMap fun k => if b k = true then some (k + 1) else none
theorem mids_succ (b : Nat → Bool) (n : Nat) : mids b (n + 1) = mids b n ++ if b n = true then [n + 1] else [] := by
  unfold mids
  rw [List.range_succ, List.filterMap_append]
  congr 1
  by_cases h : b n = true
  · rw [if_pos h]; simp [h]
  · rw [if_neg h]; simp [h]
theorem mids_congr {b b' : Nat → Bool} : ∀ n, (∀ k, k < n → b k = b' k) → mids b n = mids b' n
  | 0, _ => rfl
  | n + 1, h => by rw [mids_succ, mids_succ, mids_congr n (fun k hk => h k (by omega)), h n (by omega)]
theorem mids_len (b : Nat → Bool) : ∀ n, (mids b n).length ≤ n
  | 0 => Nat.le_refl _
  | n + 1 => by
    rw [mids_succ, List.length_append]
    have := mids_len b n
    split
    · show _ + 1 ≤ _; omega
    · show _ + 0 ≤ _; omega
def nodesOf (b : Nat → Bool) (v : Nat) : List Nat := 0 :: (mids b (v - 1) ++ [v])
theorem nodes_0 (b : Nat → Bool) (v : Nat) : (nodesOf b v).getD 0 0 = 0 := rfl
theorem nodes_len (b : Nat → Bool) (v : Nat) : (nodesOf b v).length = (mids b (v - 1)).length + 2 := by
  show (mids b (v - 1) ++ [v]).length + 1 = _
  rw [List.length_append]; rfl
theorem nodes_last (b : Nat → Bool) (v : Nat) : (nodesOf b v).getD ((nodesOf b v).length - 1) 0 = v := by
  rw [nodes_len]
  show (mids b (v - 1) ++ [v]).getD (mids b (v - 1)).length 0 = v
  rw [List.getD_eq_getElem?_getD, List.getElem?_append_right (Nat.le_refl _)]
  simp
/-- the way to v by the way to u -/
def byU (b : Nat → Bool) (u : Nat) : Nat → Bool := fun k => if k + 1 < u then b k else decide (k + 1 = u)
theorem mids_by (b : Nat → Bool) (u : Nat) (hu : u ≠ 0) : ∀ j, mids (byU b u) (u + j) = mids b (u - 1) ++ [u]
  | 0 => by
    obtain ⟨m, rfl⟩ : ∃ m, u = m + 1 := ⟨u - 1, by omega⟩
    rw [Nat.add_zero, mids_succ, if_pos (by unfold byU; rw [if_neg (by omega)]; exact decide_eq_true rfl), mids_congr m (b' := b) fun k hk => by unfold byU; rw [if_pos (by omega)]]
    rfl
  | j + 1 => by
    show mids (byU b u) (u + j + 1) = _
    rw [mids_succ, mids_by b u hu j, if_neg (by unfold byU; rw [if_neg (by omega)]; exact fun z => by have := of_decide_eq_true z; omega), List.append_nil]
theorem nodes_by (b : Nat → Bool) {u v : Nat} (hu : u ≠ 0) (h : u < v) : nodesOf (byU b u) v = nodesOf b u ++ [v] := by
  unfold nodesOf
  obtain ⟨j, rfl⟩ : ∃ j, v = u + j + 1 := ⟨v - u - 1, by omega⟩
  rw [show u + j + 1 - 1 = u + j by omega, mids_by b u hu]
  rfl
theorem mids_false : ∀ n, mids (fun _ => false) n = []
  | 0 => rfl
  | n + 1 => by rw [mids_succ, mids_false n]; rfl
theorem tot_two {as : List Arc} {v : Nat} : tot as [0, v] = stepT as (some 0) 0 v := rfl
theorem tot_best {as : List Arc} {f g : Nat → Option Nat} (B : Bd (· ∈ as) f g) (up : ∀ a ∈ as, a.1 < a.2.1) (pw : as.Pairwise fun a b => a.1 < b.1 ∨ a.1 = b.1 ∧ a.2.1 < b.2.1) :
    ∀ (n v : Nat), v ≤ n → v ≠ 0 → ∀ y, f v = some y → ∃ b, tot as (nodesOf b v) = some y
  | 0, v, h, hv, _, _ => absurd (Nat.le_zero.mp h) hv
  | n + 1, v, h, hv, y, e => by
    obtain ⟨u, c, x, h1, h2, h3, h4, _⟩ := B.s v y hv e
    have huv : u < v := up _ h2
    by_cases hu : u = 0
    · subst hu
      refine ⟨fun _ => false, ?_⟩
      unfold nodesOf
      rw [mids_false]
      show tot as [0, v] = _
      rw [tot_two, B.z.1] at *
      have := Option.some.inj h3
      rw [stepT_of pw h2, h4, this]
    · obtain ⟨b, hb⟩ := tot_best B up pw n u (by omega) hu x h3
      refine ⟨byU b u, ?_⟩
      rw [nodes_by b hu huv, tot_snoc u v (by rw [nodes_len]; omega) (nodes_last b u), hb, stepT_of pw h2, h4]
/-- masks -/
def maskOf : Nat → (Nat → Bool) → Nat
  | 0, _ => 0
  | n + 1, b => (if b 0 = true then 1 else 0) + 2 * maskOf n (fun k => b (k + 1))
theorem mask_lt : ∀ (n : Nat) (b : Nat → Bool), maskOf n b < 2 ^ n
  | 0, _ => Nat.one_pos
  | n + 1, b => by
    have := mask_lt n (fun k => b (k + 1))
    show (if b 0 = true then 1 else 0) + 2 * maskOf n (fun k => b (k + 1)) < _
    rw [Nat.pow_succ]
    split <;> omega
def bitOf (m k : Nat) : Bool := decide (m / 2 ^ k % 2 = 1)
theorem mask_bit : ∀ (n : Nat) (b : Nat → Bool) (k : Nat), k < n → bitOf (maskOf n b) k = b k
  | 0, _, _, h => absurd h (Nat.not_lt_zero _)
  | n + 1, b, 0, _ => by
    show decide (((if b 0 = true then 1 else 0) + 2 * maskOf n (fun k => b (k + 1))) / 2 ^ 0 % 2 = 1) = b 0
    rw [Nat.pow_zero, Nat.div_one]
    cases h : b 0 with
    | true => exact decide_eq_true (by rw [if_pos rfl]; omega)
    | false => exact decide_eq_false (by rw [if_neg (by simp)]; omega)
  | n + 1, b, k + 1, h => by
    have ih := mask_bit n (fun k => b (k + 1)) k (by omega)
    show decide (((if b 0 = true then 1 else 0) + 2 * maskOf n (fun k => b (k + 1))) / 2 ^ (k + 1) % 2 = 1) = b (k + 1)
    have e : ((if b 0 = true then 1 else 0) + 2 * maskOf n (fun k => b (k + 1))) / 2 ^ (k + 1) = maskOf n (fun k => b (k + 1)) / 2 ^ k := by
      rw [show 2 ^ (k + 1) = 2 * 2 ^ k by rw [Nat.pow_succ, Nat.mul_comm], ← Nat.div_div_eq_div_mul]
      congr 1
      split <;> omega
    rw [e]
    exact ih
theorem nodes_mask (b : Nat → Bool) (v : Nat) : nodesOf (bitOf (maskOf (v - 1) b)) v = nodesOf b v := by
  unfold nodesOf
  rw [mids_congr (v - 1) (fun k hk => mask_bit (v - 1) b k hk)]
end Vf

set_option Elab.async false
set_option linter.all false
set_option maxRecDepth 100000
set_option maxHeartbeats 4000000
namespace Vf
open PySem PySem.Spec PyProof.Rows L2 TL
/-! ### {k: v}, the key a tuple of ints and texts -/
def tDispT (tk tv : TE) : TE := fun σ H Q => ∀ p, H p = none → tk σ (upd H p (.dT [])) fun x H1 => tv σ H1 fun y H2 => H2 p = some (.dT []) ∧ ∃ (k : List Key) (b : Addr), x = .ref b ∧ H2 b = some (.tup (k.map kV)) ∧ Q (.ref p) (upd H2 p (.dT (putK [] k y)))
theorem pe_dispT {X : Cx} {pos : Pos} {ke ve : Expr} {tk tv : TE} (few : X.A.units < cLine) (hk : PE X ke tk) (hv : PE X ve tv) : PE X (.Dict [some ke] [ve] pos) (tDispT tk tv) := by
  refine ⟨fun pins s σ H Q I q => ?_⟩
  have hn := I.hok.fresh (Nat.le_refl s.heap.objs.size)
  have I1 := I.laid (a := s.heap.objs.size) (o := .dT []) (h' := s.heap.push { cls := .type "dict", data := .dict #[] }) (t' := s.toks) (fun _ _ q => Heap.get?_push_of_some _ q) (Nat.le_refl _) (dt_empty s.heap I.big)
  have hpp : PPs X pos [some ke] [ve] [(tk, tv)] := pps_cons hk hv pps_nil
  rw [arm_eval_Dict, zip_pairTrees [some ke] [ve] X.env pos rfl rfl, dictDisplay_pairs (pairTrees [some ke] [ve] X.env pos) (by simp [pairTrees]) (by show 1 < 17; decide)]
  refine wpAny_bind (wpAny_standAt (wpAny_bind (wpAny_subDictH (knd := tupleKind (mixKind X.prog X.w)) few (by show 1 ≤ 15; decide) ?_)))
  refine thn (hpp.run pins _ σ _ (fun ps H2 => match ps with
    | [(x, y)] => H2 s.heap.objs.size = some (.dT []) ∧ ∃ (k : List Key) (b : Addr), x = .ref b ∧ H2 b = some (.tup (k.map kV)) ∧ Q (.ref s.heap.objs.size) (upd H2 s.heap.objs.size (.dT (putK [] k y)))
    | _ => False) I1 (q _ hn)) fun ws s2 ⟨ps, H2, I2, rel, h⟩ => ?_
  match ps, h with
  | [(x, y)], h =>
    obtain ⟨eD, k, b, ex, eb, hQ⟩ := h
    subst ex
    cases rel with
    | @cons p0 w0 ps0 ws0 hrel hrest =>
    cases hrest
    obtain ⟨u, r⟩ := w0
    obtain ⟨hu, hr⟩ := hrel
    obtain rfl : u = Value.ref b := hu
    obtain ⟨h1, h2, xs, rk, dd⟩ := dt_of I2.hok eD
    cases rk
    refine ⟨[(k, b, r)], ⟨rfl, rfl, key_of I2.hok eb, trivial⟩, dd, fun h' tk d' same => wpAny_pure ?_⟩
    obtain ⟨o, es, ep, g1, g2, g3, g4, _, g5⟩ := d'
    refine ⟨.ref s.heap.objs.size, upd H2 s.heap.objs.size (.dT (putK [] k y)), d_write I2 (eD ▸ True.intro) same ⟨o, g1⟩ ⟨by show 1 ≤ sizeLine; decide, h2, _, ((show KT H2 [] [] from .nil).put k eb hr).keeps fun c ys ec => ?_, o, es, ep, g1, g2, g3, g4, g5⟩, rfl, hQ⟩
    exact (upd_ne (ne_of ec eD (fun z => nomatch z))).trans ec
  | [], h => exact h.elim
  | _ :: _ :: _, h => exact h.elim
end Vf

set_option Elab.async false
set_option linter.all false
set_option maxRecDepth 100000
set_option maxHeartbeats 4000000
namespace Vf
open PySem PySem.Spec PyProof.Rows L2 TL
/-! ### pairs of numbers as keys; bounds and tails by such keys -/
/-- len, told the frame (for the block of a comprehension) -/
def rLenK (K : PySem.W.Frag) : List V → Hp → VK → Prop := fun xs H Q => ∃ p ys, xs = [V.ref p] ∧ (SqL K H p ys ∨ SqT K H p ys) ∧ Q (V.int (ys.length : Nat)) H
theorem szM {n : Nat} (h : n < 300000) : n < sizeLine := Nat.lt_of_lt_of_le h (by decide)
def FgV (H : Hp) (x : V) (r : Nat × Nat) : Prop := ∃ b, x = .ref b ∧ H b = some (.tup [nV r.1, nV r.2])
theorem FgV.same {H H' : Hp} {x : V} {r : Nat × Nat} (h : FgV H x r) (k : Same H H') : FgV H' x r := by
  obtain ⟨b, e, f⟩ := h
  exact ⟨b, e, k _ _ f⟩
theorem FgV.kt {H H' : Hp} {x : V} {r : Nat × Nat} (h : FgV H x r) (k : ∀ a xs, H a = some (.tup xs) → H' a = some (.tup xs)) : FgV H' x r := by
  obtain ⟨b, e, f⟩ := h
  exact ⟨b, e, k _ _ f⟩
def keyP (x : Nat × Nat) : List Key := [.inl (x.1 : Int), .inl (x.2 : Int)]
theorem keyP_inj {x y : Nat × Nat} (h : keyP x = keyP y) : x = y := by
  injection h with h1 h2
  injection h2 with h2 _
  exact Prod.ext (Int.ofNat.inj (Sum.inl.inj h1)) (Int.ofNat.inj (Sum.inl.inj h2))
def Inj (ps : List (Nat × Nat)) : Prop := ∀ (i j : Nat) (x : Nat × Nat), ps[i]? = some x → ps[j]? = some x → i = j
/-- the dict at D: at the key of each place j what f has for j, told by val -/
def BdT (H : Hp) (D : Addr) (N : Nat) (ps : List (Nat × Nat)) (val : Nat → V) (f : Nat → Option Nat) : Prop := ∃ kvs : List (List Key × V), H D = some (.dT kvs) ∧ kvs.length ≤ N ∧ ∀ j x, ps[j]? = some x → valV kvs (keyP x) = (f j).map val
theorem BdT.keep {H H' : Hp} {D : Addr} {N : Nat} {ps : List (Nat × Nat)} {val : Nat → V} {f : Nat → Option Nat} (h : BdT H D N ps val f) (k : ∀ o, H D = some o → H' D = some o) : BdT H' D N ps val f := by
  obtain ⟨kvs, e, r⟩ := h
  exact ⟨kvs, k _ e, r⟩
theorem BdT.keep' {H : Hp} {D : Addr} {N M : Nat} {ps : List (Nat × Nat)} {val : Nat → V} {f : Nat → Option Nat} (h : BdT H D N ps val f) (l : N ≤ M) : BdT H D M ps val f := by
  obtain ⟨kvs, e, r, v⟩ := h
  exact ⟨kvs, e, Nat.le_trans r l, v⟩
theorem BdT.get {H : Hp} {D b : Addr} {N j : Nat} {ps : List (Nat × Nat)} {val : Nat → V} {f : Nat → Option Nat} {x : Nat × Nat} (h : BdT H D N ps val f) (e : ps[j]? = some x) (eb : H b = some (.tup [nV x.1, nV x.2])) : DGet H D (.ref b) ((f j).map val) := by
  obtain ⟨kvs, e1, _, v⟩ := h
  rw [← v j x e]
  exact DGet.t (k := keyP x) e1 eb
theorem BdT.put {H : Hp} {D b : Addr} {N j : Nat} {ps : List (Nat × Nat)} {val : Nat → V} {f : Nat → Option Nat} {x : Nat × Nat} (h : BdT H D N ps val f) (inj : Inj ps) (hN : N < 299999) (e : ps[j]? = some x) (eb : H b = some (.tup [nV x.1, nV x.2])) (y : Nat) :
    ∃ H', DPut H D (.ref b) (val y) H' ∧ BdT H' D (N + 1) ps val (fset f j y) ∧ ∃ o, H' = upd H D o := by
  obtain ⟨kvs, e1, l, v⟩ := h
  refine ⟨_, DPut.t (k := keyP x) e1 eb (szM (by omega)), ⟨_, upd_same, Nat.le_trans (length_putK _ _ _) (by omega), fun i z ez => ?_⟩, _, rfl⟩
  rw [valV_put]
  by_cases c : i = j
  · subst c
    rw [ez] at e
    rw [Option.some.inj e, if_pos rfl, fset_same]; rfl
  · have cn : ¬ keyP z = keyP x := fun q => c (inj i j x (by rw [← keyP_inj q]; exact ez) e)
    rw [if_neg cn, fset_ne c]
    exact v i z ez
end Vf

set_option Elab.async false
set_option linter.all false
set_option maxRecDepth 100000
set_option maxHeartbeats 4000000
/-! ### enumerate over a tuple -/
namespace PySem
set_option maxHeartbeats 2000000 in
theorem vf_meets {v : Value} {o : Obj} {G : Heap → Prop} (B : Begins v o G) :
    Meets (Builtin.«enumerate.__new__» ⟨[.type "enumerate", v], []⟩)
      (fun _ R s => G s.heap ∧ R (.ok (.ret (.ref (s.heap.push o).objs.size)))
        { s with heap := (s.heap.push o).push { cls := .type "enumerate", data := .fields #[.none, .bool false, .ref s.heap.objs.size, rawInt 0, .none, .none] } }) := by
  refine .of_wp fun prog w A R s h => ?_
  rcases s with ⟨hp, g, d, tk, os⟩
  rcases h with ⟨g1, r1⟩
  have sb := sub_enumerate
  have begins : ∀ {A' : Around} {E : Value → Shared → Prop} {Q : Value → Shared → Prop}, Q (.ref hp.objs.size) ⟨hp.push o, g, d, tk, os⟩ →
      wpAny (model prog w) A' (pyIter v) Q E ⟨hp, g, d, tk, os⟩ := fun q => B.iter prog w _ _ ⟨hp, g, d, tk, os⟩ _ g1 q
  wp_walk using begins
  refine wpAny_stack_any fun st => (wpAny_pure ?_)
  split
  next c _ _ _ _ _ =>
    cases (c == Value.type "enumerate") <;> (wp_walk using begins; exact Exists.intro _ (And.intro rfl r1))
  next => wp_walk using begins; exact Exists.intro _ (And.intro rfl r1)
section
variable {prog : Program} {w : World} {A : Around} {E : Value → Shared → Prop} {s : Shared}
theorem vf_enum {v : Value} {o : Obj} {G : Heap → Prop} {Q : Value → Shared → Prop} (B : Begins v o G) (g1 : G s.heap)
    (h : ∀ h' : Heap, IsEnum h' (s.heap.objs.size + 1) s.heap.objs.size 0 .none → h'.get? s.heap.objs.size = some o →
      (∀ b u, s.heap.get? b = some u → h'.get? b = some u) → Q (.ref (s.heap.objs.size + 1)) { s with heap := h' }) :
    wpAny (model prog w) A (call (.type "enumerate") [v]) Q E s := by
  have zz : (s.heap.push o).objs.size = s.heap.objs.size + 1 := Heap.size_push ..
  have ie : IsEnum ((s.heap.push o).push { cls := .type "enumerate", data := .fields #[.none, .bool false, .ref s.heap.objs.size, rawInt 0, .none, .none] }) (s.heap.objs.size + 1) s.heap.objs.size 0 .none := by
    have q := Heap.get?_push_size (s.heap.push o) (o := { cls := .type "enumerate", data := .fields #[.none, .bool false, .ref s.heap.objs.size, rawInt 0, .none, .none] }) rfl
    rw [zz] at q
    exact q
  refine callType_new F.called_enumerate (by decide) (F.typeCall_enumerate_1 _) (F.newCall_enumerate_1 _)
    (fun obj => F.args_object_init_2 obj _) F.entry_enumerate_new (vf_meets B) (And.intro g1 ?_)
  show _ ∧ _
  rw [zz]
  exact ⟨⟨_, ie, rfl⟩, h _ ie (Heap.get?_push_of_some _ (Heap.get?_push_size _ B.free))
    fun b u x => Heap.get?_push_of_some _ (Heap.get?_push_of_some _ x)⟩
end
end PySem
namespace Vf
open PySem PySem.Spec PyProof.Rows L2 TL
/-- the tuple at a, each item in a new pair with its number -/
def IteT (K : PySem.W.Frag) (a : Addr) : It where
  go := fun i H => ∃ (xs : List V) (x : V), SqT K H a xs ∧ xs[i]? = some x
  yld := fun i H v H' => ∃ (T : Addr) (x : V), v = .ref T ∧ H T = none ∧ H' = upd H T (.tup [.int (i : Nat), x]) ∧ ∀ xs, SqT K H a xs → xs[i]? = some x
  stop := fun i H => ∃ xs : List V, SqT K H a xs ∧ xs.length = i
theorem apart_of {h : Heap} {a b : Addr} {o u : Obj} {m n : String} (ha : h.get? a = some o) (hb : h.get? b = some u) (ca : o.cls = .type m) (cb : u.cls = .type n) (ne : m ≠ n) : a ≠ b := fun e => by
  rw [e, hb] at ha
  have e2 : u = o := Option.some.inj ha
  rw [e2, ca] at cb
  exact ne (by injection cb)
theorem turn_enumT {P : Program} {w : World} {K : PySem.W.Frag} {elts : List Expr} {kk : Nat} {tpos : Pos} (a e it : Addr) :
    Turn P w K (.Tuple elts kk tpos) (IteT K a) [e, it] e (fun i h => (∃ old, IsEnum h e it ((i : Nat) : Int) old) ∧ h.IsTupleIter it a i ∧ e ≠ it) where
  mem := List.mem_cons_self
  obj := fun i h st b hb => by
    obtain ⟨⟨old, ie⟩, ⟨u, hu, _, du⟩, _⟩ := st
    rcases List.mem_cons.mp hb with z | z
    · rw [z]; exact ⟨_, ie, fun v q => nomatch q⟩
    · rw [List.mem_singleton.mp z]; exact ⟨u, hu, fun v q => by rw [du] at q; cases q⟩
  keep := fun i h h' st k => by
    obtain ⟨⟨old, ie⟩, it1, ne⟩ := st
    exact ⟨⟨old, k e List.mem_cons_self _ ie⟩, it1.at fun u q => k it (List.mem_cons_of_mem _ List.mem_cons_self) u q, ne⟩
  item := by
    intro X hP hw hK hc i pins s σ H E I hf st hg
    subst hP hw hK
    obtain ⟨⟨old, ie⟩, it1, ne⟩ := st
    obtain ⟨xs, x, hq, hx⟩ := hg
    obtain ⟨its, rv, p, hz⟩ := I.tuple hq
    obtain ⟨u, hu, ru⟩ := rv.get hx
    have p2 : s.heap.IsTuple a its.toArray := p
    obtain ⟨oa, ga, ca, _⟩ := id p2
    obtain ⟨oi, gi, ci, _⟩ := id it1
    have nai : a ≠ it := apart_of ga gi ca ci (by decide)
    have nea : e ≠ a := apart_of (m := "enumerate") ie ga rfl ca (by decide)
    have hel : e < s.heap.objs.size := Heap.lt_size ie
    have hil : it < s.heap.objs.size := Heap.lt_size gi
    have hil2 : i < its.toArray.size := by
      have := (List.getElem?_eq_some_iff.mp hu).1
      simpa using this
    refine wpAny_pyNext_enum_itemD (Draws.tuple (prog := X.prog) (w := X.w) (A := X.A.in1) (I.ok.hd hc) it a nai its.toArray) ie ⟨it1, p2⟩ hil2 ne ?_ fun y h' tk hy ho hst hT hsz hk => ?_
    · intro hm
      rcases List.mem_cons.mp hm with z | z
      · exact ne z
      · exact nea (List.mem_singleton.mp z)
    have eu : y = u := by
      have h1 : its[i]? = some y := by simpa using hy
      exact Option.some.inj (h1.symm.trans hu)
    subst eu
    refine ⟨_, rfl, wpAny_letOwnedTupleGo_enum (s := { s with heap := h', toks := tk + 1 }) ho fun h2 he2 sb => ?_⟩
    have hT2 : h2.get? s.heap.objs.size = some { cls := .type "tuple", data := .seq #[.int i tk, y] } := (sb.2 _ (Nat.ne_of_gt hel)).trans hT
    have made : ObjOk X.prog X.w (upd H s.heap.objs.size (.tup [.int (i : Nat), x])) h2 s.heap.objs.size (.tup [.int (i : Nat), x]) :=
      ⟨(by show 2 ≤ sizeLine; decide), [.int i tk, y], .cons ⟨_, rfl⟩ (.cons ru .nil), ⟨_, hT2, rfl, _, rfl⟩⟩
    have J : Inv X pins σ (upd H s.heap.objs.size (.tup [.int (i : Nat), x])) { s with heap := h2, toks := tk + 1 } :=
      I.turnedNew (ch := [e, it]) (fun b ob hb q => (sb.2 b (fun z => hb (by rw [z]; exact List.mem_cons_self))).trans
        (hk b ob (fun z => hb (by rw [z]; exact List.mem_cons_self)) (fun z => hb (by rw [z]; exact List.mem_cons_of_mem _ List.mem_cons_self)) q)) hf (Nat.le_refl _) made
    have e1 : ((i + 1 : Nat) : Int) = (i : Int) + 1 := by omega
    refine ⟨.ref s.heap.objs.size, _, J, rfl, ⟨_, x, rfl, I.hok.fresh (Nat.le_refl _), rfl, fun ys hy2 => by rw [I.tuple_inj hy2 hq]; exact hx⟩,
      ⟨⟨y, by rw [e1]; exact he2⟩, hst.1.at fun u2 q => (sb.2 it (Ne.symm ne)).trans q, ne⟩, fun b hb => ?_⟩
    have hlt : b < s.heap.objs.size := by
      rcases List.mem_cons.mp hb with z | z
      · rw [z]; exact hel
      · rw [List.mem_singleton.mp z]; exact hil
    rw [upd_ne (Nat.ne_of_lt hlt)]
    exact (hf b hb).1
  done := by
    intro X hP hw hK hc i pins s σ H E I hf st hg
    subst hP hw hK
    obtain ⟨⟨old, ie⟩, it1, ne⟩ := st
    obtain ⟨xs, hq, hx⟩ := hg
    obtain ⟨its, rv, p, hz⟩ := I.tuple hq
    have p2 : s.heap.IsTuple a its.toArray := p
    obtain ⟨oa, ga, ca, _⟩ := id p2
    obtain ⟨oi, gi, ci, di⟩ := id it1
    have nai : a ≠ it := apart_of ga gi ca ci (by decide)
    obtain ⟨f0, f1, f2, f3, f4, f5⟩ := hf it (List.mem_cons_of_mem _ List.mem_cons_self)
    have hl := rv.length
    refine wpAny_pyNext_enum_endD (Draws.tuple (prog := X.prog) (w := X.w) (A := X.A.in1) (I.ok.hd hc) it a nai its.toArray) ie ⟨?_, p2⟩ fun h' eb => ⟨rfl, I.turned (t' := s.toks) (fun b o hb q => eb b o hb q) f0 f1 f3 f4 f5⟩
    have ei : its.toArray.size = i := by simp; omega
    rw [ei]
    exact it1
  self := fun A i s Q E st h => by
    obtain ⟨⟨_, ie⟩, _⟩ := st
    exact wpAny_pyIter_enum ie h
def iEnumT (K : PySem.W.Frag) (ta : TA) : TI := fun σ H R => ta σ H fun vs H1 => ∃ (a : Addr) (xs : List V), vs = [.ref a] ∧ SqT K H1 a xs ∧ R (IteT K a) H1
theorem pi_enumT {X : Cx} {e : Expr} {ta : TA} {p pos tpos : Pos} {elts : List Expr} {kk : Nat} (hg : Gl X "enumerate") (hm : X.mg "enumerate" = none) (ha : PA X [e] ta)
    (hs : starEach [e] X.env = [(false, eval e X.env)] := by rfl) : PI X (.Tuple elts kk tpos) (.Call (.Name "enumerate" p) [e] [] pos) (iEnumT X.K ta) := by
  constructor
  intro pins s σ H R I h
  refine Call_ (ld_blt I hg hm boot_enumerate (PyProof.Rows.callWith_type1 (thn (ha.run pos pins s σ H _ I h) fun us s1 res => ?_) hs rfl))
  obtain ⟨vs, H1, I1, r1, a, xs, ex, hq, q⟩ := res
  subst ex
  cases r1 with
  | cons r rr =>
    cases rr
    cases r
    obtain ⟨its, rv, p', hz⟩ := I1.tuple hq
    refine vf_enum (begins_tuple a its.toArray) (show s1.heap.IsTuple a its.toArray from p') fun h' ie gi hk => wpAny_pyIter_enum ie ?_
    have J : Inv X pins σ H1 { s1 with heap := h' } := I1.kept (t' := s1.toks) hk
    refine ⟨s1.heap.objs.size + 1, [s1.heap.objs.size + 1, s1.heap.objs.size], _, _, H1, rfl, J, turn_enumT a (s1.heap.objs.size + 1) s1.heap.objs.size, ⟨⟨.none, ie⟩, ⟨_, gi, rfl, rfl⟩, Nat.succ_ne_self _⟩, fun b hb => ?_, q⟩
    have le : s1.heap.objs.size ≤ b := by
      rcases List.mem_cons.mp hb with z | z
      · rw [z]; exact Nat.le_succ _
      · rw [List.mem_singleton.mp z]; exact Nat.le_refl _
    exact I1.fpOk le (I1.hok.fresh le)
/-- for i, x in enumerate(t): a word for each turn -/
theorem for_enumT {K : PySem.W.Frag} {a : Addr} {xs : List V} {g : TG} {tb : TS} {D : Ends} {σ : L2.St} {H : Hp} (Pv : Nat → L2.St → Hp → Prop) (h0 : Pv 0 σ H) (hl : ∀ i σ H, i ≤ xs.length → Pv i σ H → SqT K H a xs)
    (hs : ∀ i x T σ H, xs[i]? = some x → Pv i σ H → H T = none → g (.ref T) σ (upd H T (.tup [.int (i : Nat), x])) fun σ2 H2 => tb { D with nx := Pv (i + 1), ct := Pv (i + 1), bk := D.nx } σ2 H2) (hd : ∀ σ H, Pv xs.length σ H → D.nx σ H) :
    tFor (fun _ H R => R (IteT K a) H) g tb D σ H := by
  refine ⟨fun i m σ H => m = xs.length - i ∧ i ≤ xs.length ∧ Pv i σ H, ⟨xs.length, rfl, Nat.zero_le _, h0⟩, ?_⟩
  rintro i m σ H ⟨rfl, hi, p⟩
  have q := hl i σ H hi p
  by_cases hlt : i < xs.length
  · refine .inr ⟨⟨xs, xs[i], q, List.getElem?_eq_getElem hlt⟩, Pv (i + 1), fun σ' H' p' => ⟨xs.length - (i + 1), by omega, rfl, hlt, p'⟩, fun v H' y => ?_⟩
    obtain ⟨T, x, rfl, hT, rfl, hx⟩ := y
    exact hs i x T σ H (hx _ q) p hT
  · have e : i = xs.length := by omega
    subst e
    exact .inl ⟨⟨xs, q, rfl⟩, hd σ H p⟩
theorem walk_enumT {K : PySem.W.Frag} {a : Addr} {xs : List V} : Walk (IteT K a) xs.length (fun H => SqT K H a xs) (YPair (fun i => some (.int (i : Nat))) (fun i => xs[i]?)) := by
  refine ⟨fun i _ hi q => ⟨xs, xs[i], q, by simp [hi]⟩, fun _ q => ⟨xs, q, rfl⟩, fun i H v H' _ q y => ?_⟩
  obtain ⟨T, x, h1, h2, h3, h4⟩ := y
  exact ⟨T, .int (i : Nat), x, h1, h2, h3, rfl, h4 xs q⟩
/-- a dict comprehension whose keys are ints or texts -/
theorem dcK_it {J : It} {n : Nat} {G : Hp → Prop} {Y : Nat → Hp → V → Hp → Prop} (w : Walk J n G Y) {g : TG} {tt : TT} {tk tv : TE} {own : List Nat} {σ : L2.St} {Ha : Hp} {D : Addr} {Qd : Hp → Prop} (Pv : Nat → Hp → Prop) (start : Pv 0 (upd Ha D (.dK []))) (stays : ∀ i H, i ≤ n → Pv i H → G H)
    (turn : ∀ i x H H', i < n → Pv i H → Y i H x H' → g x (wipe σ own) H' fun σ2 H2 => wipe σ2 own = wipe σ own ∧ tt σ2 H2 fun b H3 => if b = true then tk σ2 H3 fun y H4 => tv σ2 H4 fun z H5 => ∃ kvs k, y = kV k ∧ H5 D = some (.dK kvs) ∧ kvs.length < sizeLine ∧ Pv (i + 1) (upd H5 D (.dK (putK kvs k z))) else Pv (i + 1) H3)
    (after : ∀ H, Pv n H → Qd H) :
    ∃ W : Nat → Nat → Hp → Prop, (∃ m, W 0 m (upd Ha D (.dK []))) ∧ ∀ i m Hb, W i m Hb → (J.stop i Hb ∧ Qd Hb) ∨
      (J.go i Hb ∧ ∃ N : Hp → Prop, (∀ Hc, N Hc → ∃ m', m' < m ∧ W (i + 1) m' Hc) ∧ ∀ x Hc, J.yld i Hb x Hc →
        g x (wipe σ own) Hc fun σ2 H2 => wipe σ2 own = wipe σ own ∧ tt σ2 H2 fun b H3 => if b = true then tk σ2 H3 fun y H4 => tv σ2 H4 fun z H5 => ∃ kvs k, y = kV k ∧ H5 D = some (.dK kvs) ∧ kvs.length < sizeLine ∧ N (upd H5 D (.dK (putK kvs k z))) else N H3) := by
  refine ⟨fun i m H => m + i = n ∧ Pv i H, ⟨n, by omega, start⟩, fun i m Hb h => ?_⟩
  have ⟨e, p⟩ := h
  have ok := stays i Hb (by omega) p
  rcases Nat.lt_or_ge i n with lt | ge
  · refine .inr ⟨w.goes i Hb lt ok, Pv (i + 1), fun Hc q => ⟨m - 1, by omega, by omega, q⟩, fun x Hc y => turn i x Hb Hc lt p (w.yields i Hb x Hc lt ok y)⟩
  · obtain rfl : i = n := by omega
    exact .inl ⟨w.stops Hb ok, after Hb p⟩
end Vf

set_option Elab.async false
set_option linter.all false
set_option maxRecDepth 100000
set_option maxHeartbeats 4000000
namespace Vf
open PySem PySem.Spec PyProof.Rows L2 TL
/-! ### a comprehension with two for -/
theorem lc2_out {J : It} {n : Nat} {G : Hp → Prop} {Y : Nat → Hp → V → Hp → Prop} (w : Walk J n G Y) {g : TG} {tt : TT} {Body : L2.St → Hp → (Hp → Prop) → Prop} {vs : List Nat} {σ : L2.St} {H1 : Hp} {D : Addr} {Qd : Hp → Prop} (Pv : Nat → Hp → Prop) (h0 : Pv 0 (upd H1 D (.lst []))) (hG : ∀ i H, i ≤ n → Pv i H → G H)
    (hs : ∀ i x H H', i < n → Pv i H → Y i H x H' → g x (wipe σ vs) H' fun σ2 H2 => wipe σ2 vs = wipe σ vs ∧ tt σ2 H2 fun b H3 => if b = true then Body σ2 H3 (Pv (i + 1)) else Pv (i + 1) H3) (hd : ∀ H, Pv n H → Qd H) :
    ∃ W : Nat → Nat → Hp → Prop, (∃ m, W 0 m (upd H1 D (.lst []))) ∧ ∀ i m H, W i m H →
      (J.stop i H ∧ Qd H) ∨ (J.go i H ∧ ∃ Nx : Hp → Prop, (∀ H', Nx H' → ∃ m', m' < m ∧ W (i + 1) m' H') ∧ ∀ x H', J.yld i H x H' → g x (wipe σ vs) H' fun σ2 H2 => wipe σ2 vs = wipe σ vs ∧ tt σ2 H2 fun b H3 =>
        if b = true then Body σ2 H3 Nx else Nx H3) := by
  refine ⟨fun i m H => m = n - i ∧ i ≤ n ∧ Pv i H, ⟨n, by simp, Nat.zero_le _, h0⟩, ?_⟩
  rintro i m H ⟨rfl, hi, p⟩
  have q := hG i H hi p
  by_cases hlt : i < n
  · exact .inr ⟨w.goes i H hlt q, Pv (i + 1), fun H' p' => ⟨n - (i + 1), by omega, rfl, hlt, p'⟩, fun x H' y => hs i x H H' hlt p (w.yields i H x H' hlt q y)⟩
  · have e : i = n := by omega
    subst e
    exact .inl ⟨w.stops H q, hd H p⟩
theorem lc2_in {J : It} {n : Nat} {G : Hp → Prop} {Y : Nat → Hp → V → Hp → Prop} (w : Walk J n G Y) {g1 : TG} {tt1 : TT} {te : TE} {vs1 : List Nat} {σ2 : L2.St} {H4 : Hp} {D : Addr} {Nx : Hp → Prop} (Pv : Nat → Hp → Prop) (h0 : Pv 0 H4) (hG : ∀ i H, i ≤ n → Pv i H → G H)
    (hs : ∀ j x H H', j < n → Pv j H → Y j H x H' → g1 x (wipe σ2 vs1) H' fun σ3 H5 => wipe σ3 vs1 = wipe σ2 vs1 ∧ tt1 σ3 H5 fun b H6 => if b = true then te σ3 H6 fun y H7 => ∃ acc, H7 D = some (.lst acc) ∧ acc.length < sizeLine ∧ Pv (j + 1) (upd H7 D (.lst (acc ++ [y]))) else Pv (j + 1) H6) (hd : ∀ H, Pv n H → Nx H) :
    ∃ W1 : Nat → Nat → Hp → Prop, (∃ m, W1 0 m H4) ∧ ∀ j k H, W1 j k H →
      (J.stop j H ∧ Nx H) ∨ (J.go j H ∧ ∃ Nx1 : Hp → Prop, (∀ H', Nx1 H' → ∃ k', k' < k ∧ W1 (j + 1) k' H') ∧ ∀ x H', J.yld j H x H' → g1 x (wipe σ2 vs1) H' fun σ3 H5 => wipe σ3 vs1 = wipe σ2 vs1 ∧ tt1 σ3 H5 fun b H6 =>
        if b = true then te σ3 H6 fun y H7 => ∃ acc, H7 D = some (.lst acc) ∧ acc.length < sizeLine ∧ Nx1 (upd H7 D (.lst (acc ++ [y]))) else Nx1 H6) := by
  refine ⟨fun i m H => m = n - i ∧ i ≤ n ∧ Pv i H, ⟨n, by simp, Nat.zero_le _, h0⟩, ?_⟩
  rintro i m H ⟨rfl, hi, p⟩
  have q := hG i H hi p
  by_cases hlt : i < n
  · exact .inr ⟨w.goes i H hlt q, Pv (i + 1), fun H' p' => ⟨n - (i + 1), by omega, rfl, hlt, p'⟩, fun x H' y => hs i x H H' hlt p (w.yields i H x H' hlt q y)⟩
  · have e : i = n := by omega
    subst e
    exact .inl ⟨w.stops H q, hd H p⟩
end Vf

set_option Elab.async false
set_option linter.all false
set_option maxRecDepth 100000
set_option maxHeartbeats 4000000
namespace Vf
open PySem PySem.Spec PyProof.Rows L2 TL
/-- two values are the same data, at most n - 1 tuples deep -/
def Eqv : Nat → Hp → V → V → Prop
  | 0, _, _, _ => False
  | n + 1, H, v, u => ((∃ z, v = .str z ∧ u = .str z) ∨ (∃ i, v = .int i ∧ u = .int i) ∨ (v = .non ∧ u = .non)) ∨
      ∃ (a b : Addr) (xs ys : List V), v = .ref a ∧ u = .ref b ∧ H a = some (.tup xs) ∧ H b = some (.tup ys) ∧ xs.length = ys.length ∧ xs.length ≤ 100000 ∧ ∀ (i : Nat) x y, xs[i]? = some x → ys[i]? = some y → Eqv n H x y
def spExact (n : Nat) : Sp := fun vs H Q _ => ∃ (v u : V), vs = [v, u] ∧ Eqv n H v u ∧ Q (.bl true) H
theorem eq_self {H : Hp} {Q : VK} {x : V} (q : Q (.bl true) H) : Q (.bl (decide (x = x))) H := by
  rw [decide_eq_true rfl]; exact q
section
variable {P : Program} {w : World} {K : PySem.W.Frag} {mg : Str → Option Value} {base : Heap}
theorem ok_exact (T : Txt K mg) : ∀ n : Nat, FnOk P w K mg base CX0 (n + 1) T.a_law_exact T.d_law_exact ["_law_told_here", "_law_due"] (spExact n)
  | 0 => by
    refine T.D_law_exact.F.ok sc_law_exact (fun vs H Q E h => ?_) (fun cdv A outer s H vs Q E hr h => ?_)
    · obtain ⟨v, u, rfl, _⟩ := h
      rfl
    · obtain ⟨v, u, rfl, hE, q⟩ := h
      exact hE.elim
  | n + 1 => by
    have G_law_exact : FnOk P w K mg base CX0 (n + 1) T.a_law_exact T.d_law_exact ["_law_told_here", "_law_due"] (spExact n) := ok_exact T n
    refine T.D_law_exact.F.ok sc_law_exact (fun vs H Q E h => ?_) (fun cdv A outer s H vs Q E hr h => ?_)
    · obtain ⟨v, u, rfl, _⟩ := h
      rfl
    · obtain ⟨v, u, rfl, hE, q⟩ := h
      refine ⟨_, (pss_cons (ps_if (pt_val (pe_callB call_isi (by rfl) T.n_isinstance (by decide +kernel) (pa_cons (pv 1) (pa_cons (pe_bltn (v := .ty "tuple") (by rfl) T.n_tuple (by decide +kernel) rfl) pa_nil)))) (pss_cons (ps_if (PW.pt (pw_or (pt_not (pt_val (pe_callB call_isi (by rfl) T.n_isinstance (by decide +kernel) (pa_cons (pv 0) (pa_cons (pe_bltn (v := .ty "tuple") (by rfl) T.n_tuple (by decide +kernel) rfl) pa_nil))))) (pw_or1 (pt_cmpR op_ne (pe_callB call_len (by rfl) T.n_len PySem.boot_len (pa_cons (pv 0) pa_nil)) (pe_callB call_len (by rfl) T.n_len PySem.boot_len (pa_cons (pv 1) pa_nil)) (nomark _))))) (pss_one (ps_ret pe_bl)) pss_nil)
      (pss_cons (ps_for PassesOwn.never rfl (pi_range1 (by rfl) T.n_range (pa_cons (pe_callB call_len (by rfl) T.n_len PySem.boot_len (pa_cons (pv 1) pa_nil)) pa_nil)) (pg_name (i := 2) sc_law_exact.nd rfl (.inl rfl)) (pss_one (ps_if (pt_not (pt_val (pe_call G_law_exact hr (by rfl) T.D_law_exact.G T.D_law_exact.F.kp T.D_law_exact.B .nil pass0 (pa_cons (pe_ix ix_seq (pv 0) (pv 2) (fun _ _ => rfl)) (pa_cons (pe_ix ix_seq (pv 1) (pv 2) (fun _ _ => rfl)) pa_nil))))) (pss_one (ps_ret pe_bl)) pss_nil)))
      (pss_one (ps_ret pe_bl)))) pss_nil)
      (pss_cons (ps_if (pt_cmpR op_isN (pv 1) pe_non (nomark _)) (pss_one (ps_ret (pe_cmpR op_isN (pv 0) pe_non (nomark _)))) pss_nil)
      (pss_cons (ps_if (pt_val (pe_callB call_isi (by rfl) T.n_isinstance (by decide +kernel) (pa_cons (pv 1) (pa_cons (pe_bltn (v := .ty "bool") (by rfl) T.n_bool (by decide +kernel) rfl) pa_nil)))) (pss_one (ps_ret (pe_and (pe_callB call_isi (by rfl) T.n_isinstance (by decide +kernel) (pa_cons (pv 0) (pa_cons (pe_bltn (v := .ty "bool") (by rfl) T.n_bool (by decide +kernel) rfl) pa_nil))) (pe_one (pe_cmpR op_eq (pv 0) (pv 1) (nomark _)))))) pss_nil)
      (pss_cons (ps_if (pt_val (pe_callB call_isi (by rfl) T.n_isinstance (by decide +kernel) (pa_cons (pv 1) (pa_cons (pe_bltn (v := .ty "int") (by rfl) T.n_int (by decide +kernel) rfl) pa_nil)))) (pss_one (ps_ret (pe_and (pe_callB call_isi (by rfl) T.n_isinstance (by decide +kernel) (pa_cons (pv 0) (pa_cons (pe_bltn (v := .ty "int") (by rfl) T.n_int (by decide +kernel) rfl) pa_nil))) (pe_and (pe_not (pe_callB call_isi (by rfl) T.n_isinstance (by decide +kernel) (pa_cons (pv 0) (pa_cons (pe_bltn (v := .ty "bool") (by rfl) T.n_bool (by decide +kernel) rfl) pa_nil)))) (pe_one (pe_cmpR op_eq (pv 0) (pv 1) (nomark _))))))) pss_nil)
      (pss_one (ps_ret (pe_and (pe_callB call_isi (by rfl) T.n_isinstance (by decide +kernel) (pa_cons (pv 0) (pa_cons (pe_bltn (v := .ty "str") (by rfl) T.n_str (by decide +kernel) rfl) pa_nil))) (pe_one (pe_cmpR op_eq (pv 0) (pv 1) (nomark _)))))))))), ?_⟩
      rcases hE with (⟨z, rfl, rfl⟩ | ⟨i, rfl, rfl⟩ | ⟨rfl, rfl⟩) | ⟨a, b, xs, ys, rfl, rfl, ha, hb, el, en, hE⟩
      · refine ⟨_, rfl, _, _, .type "str", .type "tuple", false, rfl, .ty _, .base (.str _), kit_ty (by decide +kernel), _, rfl, ?_⟩
        refine ⟨_, rfl, rfl, false, bl_of (decide_eq_false (fun e => by cases e)), ?_⟩
        refine ⟨_, rfl, _, _, .type "str", .type "bool", false, rfl, .ty _, .base (.str _), kit_ty (by decide +kernel), _, rfl, ?_⟩
        refine ⟨_, rfl, _, _, .type "str", .type "int", false, rfl, .ty _, .base (.str _), kit_ty (by decide +kernel), _, rfl, ?_⟩
        exact ⟨_, rfl, _, _, .type "str", .type "str", true, rfl, .ty _, .base (.str _), kit_ty (by decide +kernel), true, rfl, _, rfl, _, rfl, rfl, eq_self q⟩
      · refine ⟨_, rfl, _, _, .type "int", .type "tuple", false, rfl, .ty _, .base (.int _), kit_ty (by decide +kernel), _, rfl, ?_⟩
        refine ⟨_, rfl, rfl, false, bl_of (decide_eq_false (fun e => by cases e)), ?_⟩
        refine ⟨_, rfl, _, _, .type "int", .type "bool", false, rfl, .ty _, .base (.int _), kit_ty (by decide +kernel), _, rfl, ?_⟩
        refine ⟨_, rfl, _, _, .type "int", .type "int", true, rfl, .ty _, .base (.int _), kit_ty (by decide +kernel), _, rfl, ?_⟩
        exact ⟨_, rfl, _, _, .type "int", .type "int", true, rfl, .ty _, .base (.int _), kit_ty (by decide +kernel), true, rfl, _, rfl, _, _, .type "int", .type "bool", false, rfl, .ty _, .base (.int _), kit_ty (by decide +kernel), false, rfl, true, rfl, _, rfl, _, rfl, rfl, eq_self q⟩
      · refine ⟨_, rfl, _, _, .type "NoneType", .type "tuple", false, rfl, .ty _, .base .non, kit_ty (by decide +kernel), _, rfl, ?_⟩
        exact ⟨_, rfl, rfl, true, bl_of (decide_eq_true rfl), _, rfl, rfl, eq_self q⟩
      · refine ⟨_, rfl, _, _, .type "tuple", .type "tuple", true, rfl, .ty _, .base (.tup hb), kit_ty (by decide +kernel), _, rfl, ?_⟩
        refine ⟨_, rfl, _, _, .type "tuple", .type "tuple", true, rfl, .ty _, .base (.tup ha), kit_ty (by decide +kernel), _, rfl, ?_⟩
        refine ⟨_, rfl, _, _, rfl, .inr ⟨_, SqT.of ha, rfl⟩, _, rfl, _, _, rfl, .inr ⟨_, SqT.of hb, rfl⟩, rfl, false, ?_, ?_⟩
        · rw [el, decide_eq_true rfl]; rfl
        refine ⟨_, rfl, _, _, rfl, .inr ⟨_, SqT.of hb, rfl⟩, _, rfl, by omega, by omega, ?_⟩
        refine for_range (lo := 0) (n := ((ys.length : Nat) : Int).toNat) (fun i σ' H' => H' = H ∧ ∃ x2 : Option V, σ' = [some (.ref a), some (.ref b), x2]) ⟨rfl, none, rfl⟩ ?_ ?_
        · rintro i σ' H' hi ⟨rfl, x2, rfl⟩
          have hi2 : i < ys.length := by omega
          have hi1 : i < xs.length := by omega
          have gx : xs[i]? = some xs[i] := List.getElem?_eq_getElem hi1
          have gy : ys[i]? = some ys[i] := List.getElem?_eq_getElem hi2
          have e0 : ((0 : Int) + (i : Int)) = (i : Int) := Int.zero_add _
          refine ⟨_, rfl, _, rfl, .inr (.inl ⟨a, xs, _, _, rfl, rfl, SqT.of ha, at_of e0 gx, ?_⟩)⟩
          refine ⟨_, rfl, _, rfl, .inr (.inl ⟨b, ys, _, _, rfl, rfl, SqT.of hb, at_of e0 gy, ?_⟩)⟩
          exact ⟨_, _, rfl, hE i _ _ gx gy, true, rfl, rfl, _, rfl⟩
        · rintro σ' H' ⟨rfl, x2, rfl⟩
          exact q
end
end Vf

set_option Elab.async false
set_option linter.all false
set_option maxRecDepth 100000
set_option maxHeartbeats 4000000
namespace Vf
open PySem PySem.Spec PyProof.Rows L2 TL
/-! ### text times int -/
theorem op_mul_str {X : Cx} : OpR X (binaryOp .Mult) (fun x y H Q => ∃ z n, x = .str z ∧ y = .int n ∧ MulOk z n ∧ Q (.str (Txt.mul z n)) H) := by
  intro pins s σ H x y v u Q I rx ry h
  obtain ⟨z, n, rfl, rfl, hm, q⟩ := h
  obtain ⟨t, rfl⟩ := rx
  obtain ⟨t', rfl⟩ := ry
  exact SB.mul hm fun t' k => ⟨.str (Txt.mul z n), H, I.tok _, ⟨_, rfl⟩, q⟩
theorem mul_fill {k : Nat} (h : k ≤ 2) : MulOk ("_" : Str) (k : Int) ∧ Txt.mul ("_" : Str) (k : Int) = mkS (List.replicate k 95) := by
  rcases k with _ | _ | _ | k
  · exact ⟨⟨by decide, fun h => absurd (by decide) h, fun h => absurd (by decide) h⟩, by decide +kernel⟩
  · exact ⟨⟨by decide, fun _ h => absurd h (by decide), fun _ h => absurd h (by decide)⟩, by decide +kernel⟩
  · exact ⟨⟨by decide, fun _ _ => by decide +kernel, fun _ _ => by decide +kernel⟩, by decide +kernel⟩
  · omega
theorem cutMid {zs : List Nat} {i e : Nat} (h1 : i ≤ zs.length) (h2 : e ≤ zs.length) : cutS (mkS zs) (some (i : Int)) (some (e : Int)) = mkS ((zs.drop i).take (e - i)) := by
  unfold cutS
  rw [HT.sIx_nat, HT.sIx_nat, mkS_len, Nat.min_eq_left h1, Nat.min_eq_left h2]
  rfl
theorem cutOne {zs : List Nat} : cutS (mkS zs) none (some (1 : Int)) = mkS (zs.take 1) := by
  unfold cutS
  rw [show (some (1 : Int)) = some ((1 : Nat) : Int) from rfl, HT.sIx_nat, HT.sIx_none, mkS_len]
  show mkS ((zs.drop 0).take (min 1 zs.length - 0)) = _
  rw [List.drop_zero, Nat.sub_zero]
  by_cases c : 1 ≤ zs.length
  · rw [Nat.min_eq_left c]
  · rw [Nat.min_eq_right (by omega), List.take_of_length_le (Nat.le_refl _), List.take_of_length_le (by omega)]
/-- a row more -/
theorem look_snoc {κ β : Type} [DecidableEq κ] {L : List (κ × β)} {r : κ × β} (h : ∀ q ∈ L, q.1 ≠ r.1) (k : κ) : look (L ++ [r]) k = if r.1 = k then some r.2 else look L k := by
  induction L with
  | nil =>
    by_cases e : r.1 = k
    · rw [if_pos e, ← e]; exact look_hit
    · rw [if_neg e]; exact look_miss e
  | cons q L ih =>
    have ih := ih fun x hx => h x (List.mem_cons_of_mem _ hx)
    by_cases e : q.1 = k
    · have : r.1 ≠ k := fun z => h q List.mem_cons_self (e.trans z.symm)
      rw [if_neg this, ← e]
      show look (q :: (L ++ [r])) q.1 = look (q :: L) q.1
      rw [look_hit, look_hit]
    · show look (q :: (L ++ [r])) k = _
      rw [look_miss e, look_miss e, ih]
theorem fresh_W {S : Sty} (h : StyOk S) {n : Nat} {r : Nat × Nat} (hr : S.W[n]? = some r) : ∀ q ∈ S.W.take n, q.1 ≠ r.1 := by
  intro q hq e
  obtain ⟨i, hi⟩ := List.mem_iff_getElem?.mp hq
  rw [List.getElem?_take] at hi
  by_cases c : i < n
  · rw [if_pos c] at hi
    have g1 : (rowsW S.W)[i]? = some ([q.1], natV q.2) := by unfold rowsW; rw [List.getElem?_map, hi]; rfl
    have g2 : (rowsW S.W)[n]? = some ([r.1], natV r.2) := by unfold rowsW; rw [List.getElem?_map, hr]; rfl
    exact lexN_ne (h.sw.lt g1 g2 c) (by show [q.1] = [r.1]; rw [e])
  · rw [if_neg c] at hi; cases hi
theorem fresh_2 {L : List ((Nat × Nat) × Nat)} (h : Asc (rows2 L)) {n : Nat} {r : (Nat × Nat) × Nat} (hr : L[n]? = some r) : ∀ q ∈ L.take n, q.1 ≠ r.1 := by
  intro q hq e
  obtain ⟨i, hi⟩ := List.mem_iff_getElem?.mp hq
  rw [List.getElem?_take] at hi
  by_cases c : i < n
  · rw [if_pos c] at hi
    have g1 : (rows2 L)[i]? = some ([q.1.1, q.1.2], natV q.2) := by unfold rows2; rw [List.getElem?_map, hi]; rfl
    have g2 : (rows2 L)[n]? = some ([r.1.1, r.1.2], natV r.2) := by unfold rows2; rw [List.getElem?_map, hr]; rfl
    exact lexN_ne (h.lt g1 g2 c) (by show [q.1.1, q.1.2] = [r.1.1, r.1.2]; rw [e])
  · rw [if_neg c] at hi; cases hi
theorem wOf_snoc {S : Sty} (h : StyOk S) {n : Nat} {r : Nat × Nat} (hr : S.W[n]? = some r) (c : Nat) : wOf (S.W.take (n + 1)) c = if r.1 = c then r.2 else wOf (S.W.take n) c := by
  unfold wOf
  rw [take_succ' hr, look_snoc (fresh_W h hr)]
  by_cases e : r.1 = c
  · rw [if_pos e, if_pos e]; rfl
  · rw [if_neg e, if_neg e]
theorem cutOf_snoc {L : List ((Nat × Nat) × Nat)} (h : Asc (rows2 L)) {n : Nat} {r : (Nat × Nat) × Nat} (hr : L[n]? = some r) (a b : Nat) : cutOf (L.take (n + 1)) a b = (if r.1 = (a, b) then r.2 else 0) + cutOf (L.take n) a b := by
  unfold cutOf
  rw [take_succ' hr, look_snoc (fresh_2 h hr)]
  by_cases e : r.1 = (a, b)
  · rw [if_pos e, if_pos e, look_none fun q hq z => fresh_2 h hr q hq (z.trans e.symm)]; rfl
  · rw [if_neg e, if_neg e, Nat.zero_add]
theorem sgn_eq (a b : Nat) : decide (sgn a = sgn b) = decide (a = b) := decide_eq_decide.mpr ⟨fun h => by
  have h := V.str.inj h
  have := congrArg (fun t : Str => t.cps.toList) h
  exact (List.cons.inj this).1, fun h => by rw [h]⟩
theorem RowsV.row {H : Hp} {vs : List V} {L : List (List Nat × V)} {n : Nat} {x : V} (hl : vs.length = L.length) (h : ∀ (i : Nat) (r : List Nat × V), L[i]? = some r → ∃ b : Addr, vs[i]? = some (.ref b) ∧ H b = some (.tup (rowV r))) (hx : vs[n]? = some x) : ∃ (r : List Nat × V) (b : Addr), L[n]? = some r ∧ x = .ref b ∧ H b = some (.tup (rowV r)) := by
  have hn := (List.getElem?_eq_some_iff.mp hx).1
  have g : L[n]? = some L[n] := List.getElem?_eq_getElem (by omega)
  obtain ⟨b, e1, e2⟩ := h n _ g
  rw [hx] at e1
  exact ⟨_, b, g, Option.some.inj e1, e2⟩
theorem map_at2 {α β : Type} {f : α → β} {l : List α} {i : Nat} {y : β} (h : (l.map f)[i]? = some y) : ∃ x, l[i]? = some x ∧ y = f x := by
  obtain ⟨x, e1, e2⟩ := at_map h
  exact ⟨x, e1, e2.symm⟩
section
variable {P : Program} {w : World} {K : PySem.W.Frag} {mg : Str → Option Value} {base : Heap}
def spLawPiece : Sp := fun vs H Q _ => ∃ (v : V) (S : Sty) (zs : List Nat) (i j : Nat), vs = [v, sV zs, .int (i : Int), .int (j : Int)] ∧ StyV H v S ∧ StyOk S ∧ WdOk zs ∧ i ≤ j ∧ j ≤ zs.length ∧ Q (sV (pieceN S zs i j)) H
def partN (S : Sty) (zs : List Nat) (i j n : Nat) : List Nat := (List.range' i n).flatMap (fun k => zs.getD k 0 :: List.replicate (wAt S zs j k - 1) 95)
theorem partN_len {S : Sty} (h : StyOk S) (zs : List Nat) (i j n : Nat) : (partN S zs i j n).length ≤ 3 * n := by
  unfold partN
  have : ∀ l : List Nat, (l.flatMap (fun k => zs.getD k 0 :: List.replicate (wAt S zs j k - 1) 95)).length ≤ 3 * l.length := by
    intro l
    induction l with
    | nil => exact Nat.le_refl _
    | cons a r ih =>
      rw [List.flatMap_cons, List.length_append, List.length_cons, List.length_replicate, List.length_cons]
      have := wAt_bd h zs j a
      omega
  have := this (List.range' i n)
  rw [List.length_range'] at this
  exact this
theorem ok_law_piece (T : Txt K mg) : FnOk P w K mg base CX0 1 T.a_law_piece T.d_law_piece ["_law_style_here", "_law_word_here", "_law_first", "_law_behind"] spLawPiece := by
  refine T.D_law_piece.F.ok sc_law_piece (fun vs H Q E h => ?_) (fun cdv A outer s H vs Q E hr h => ?_)
  · obtain ⟨v, S, zs, k, j, rfl, _⟩ := h
    rfl
  · obtain ⟨v, S, zs, i, j, rfl, ⟨a, wv, cv, bv, pv_, rfl, e, ⟨wa, ws, rfl, ew, lw, hW⟩, ⟨ca, cs, rfl, ec, lc, hC⟩, h3⟩, ok, wd, hij, hj, q⟩ := h
    refine ⟨_, (pss_cons (ps_set (i := 4) sc_law_piece.nd rfl (.inl rfl) pe_str)
      (pss_cons (ps_for PassesOwn.never rfl (pi_range2 (by rfl) T.n_range (pa_cons (pv 2) (pa_cons (pv 3) pa_nil))) (pg_name (i := 5) sc_law_piece.nd rfl (.inl rfl)) (pss_cons (ps_set (i := 6) sc_law_piece.nd rfl (.inl rfl) pe_int)
      (pss_cons (ps_for PassesOwn.never rfl (pi_tup (pe_ix ix_tup (pv 0) pe_int (fun _ _ => rfl))) (pg_tup (by rfl) (pgs_cons (pg_name (i := 7) sc_law_piece.nd rfl (.inl rfl)) (pgs_cons (pg_name (i := 8) sc_law_piece.nd rfl (.inl rfl)) pgs_nil))) (pss_one (ps_if (pt_cmpR op_eq (pv 7) (pe_ix ix_str (pv 1) (pv 5) (fun _ _ => rfl)) (nomark _)) (pss_one (ps_set (i := 6) sc_law_piece.nd rfl (.inl rfl) (pv 8))) pss_nil)))
      (pss_cons (ps_for PassesOwn.never rfl (pi_tup (pe_ix ix_tup (pv 0) pe_int (fun _ _ => rfl))) (pg_tup (by rfl) (pgs_cons (pg_name (i := 7) sc_law_piece.nd rfl (.inl rfl)) (pgs_cons (pg_name (i := 9) sc_law_piece.nd rfl (.inl rfl)) (pgs_cons (pg_name (i := 10) sc_law_piece.nd rfl (.inl rfl)) pgs_nil)))) (pss_one (ps_if (PW.pt (pw_and (pt_cmpR op_eq (pv 7) (pe_ix ix_str (pv 1) (pv 5) (fun _ _ => rfl)) (nomark _)) (pw_and1 (pt_cmpR op_eq (pe_slice sl_str (pe_slice sl_str (pv 1) (po_some (pe_op op_add (pv 5) pe_int)) (po_some (pv 3))) po_none (po_some pe_int)) (pv 9) (nomark _))))) (pss_one (ps_set (i := 6) sc_law_piece.nd rfl (.inl rfl) (pe_op op_sub (pv 6) (pv 10)))) pss_nil)))
      (pss_one (ps_set (i := 4) sc_law_piece.nd rfl (.inl rfl) (pe_op op_add_str (pe_op op_add_str (pv 4) (pe_ix ix_str (pv 1) (pv 5) (fun _ _ => rfl))) (pe_op op_mul_str pe_str (pe_op op_sub (pv 6) pe_int)))))))))
      (pss_one (ps_ret (pe_ifExp (pt_cmpR op_lt (pv 3) (pe_callB call_len_str (by rfl) T.n_len PySem.boot_len (pa_cons (pv 1) pa_nil)) (nomark _)) (pe_op op_add_str (pv 4) pe_str) (pv 4)))))), ?_⟩
    have hb : (mkS zs).length ≤ sizeLine := by rw [mkS_len]; exact big_ok (by have := wd.len; omega)
    have hl := wd.len
    refine ⟨_, rfl, _, rfl, i, j, rfl, ⟨by omega, by omega, by omega, by omega⟩, ?_⟩
    have en : ((j : Int) - (i : Int)).toNat = j - i := by omega
    rw [en]
    refine for_it walk_range (fun n σ' H' => H' = H ∧ ∃ (x5 x6 x7 x8 x9 x10 : Option V), σ' = [some (.ref a), some (sV zs), some (.int (i : Int)), some (.int (j : Int)), some (sV (partN S zs i j n)), x5, x6, x7, x8, x9, x10]) ⟨rfl, none, none, none, none, none, none, rfl⟩ (fun _ _ _ _ _ => trivial) ?_ ?_
    · rintro n x σ' H' H'' hn ⟨rfl, x5, x6, x7, x8, x9, x10, rfl⟩ ⟨rfl, hx⟩
      have hx : x = .int ((i + n : Nat) : Int) := hx
      subst hx
      have g0 := wd.at (show i + n < zs.length by omega)
      refine ⟨_, rfl, a, _, _, _, rfl, rfl, SqT.of e, rfl, wa, rfl, ⟨ws, SqT.of ew⟩, ?_⟩
      refine for_it (walk_tup (K := K) (a := wa) (xs := ws)) (fun m σ' H2 => H2 = H'' ∧ ∃ (x7 x8 : Option V), σ' = [some (.ref a), some (sV zs), some (.int (i : Int)), some (.int (j : Int)), some (sV (partN S zs i j n)), some (.int ((i + n : Nat) : Int)), some (natV (wOf (S.W.take m) (zs.getD (i + n) 0))), x7, x8, x9, x10]) ⟨rfl, x7, x8, rfl⟩ (fun _ _ _ _ h => by rw [h.1]; exact SqT.of ew) ?_ ?_
      · rintro m x σ' H2 H3 hm ⟨rfl, x7, x8, rfl⟩ ⟨rfl, hx⟩
        obtain ⟨r, b, hr1, rfl, hb1⟩ := RowsV.row lw hW hx
        obtain ⟨r, hr2, rfl⟩ := map_at2 hr1
        refine ⟨b, _, rfl, SqT.of hb1, rfl, _, _, rfl, _, _, rfl, rfl, ?_⟩
        refine ⟨_, rfl, _, rfl, _, rfl, mkS zs, _, _, rfl, rfl, hb, atI_nat g0.1, rfl, decide (r.1 = zs.getD (i + n) 0), congrArg V.bl (sgn_eq _ _), ite2 (fun c => ?_) (fun c => ?_)⟩
        · have c := of_decide_eq_true c
          refine ⟨_, rfl, rfl, some (sgn r.1), some (natV r.2), ?_⟩
          rw [wOf_snoc ok hr2, if_pos c]; rfl
        · have c : ¬ r.1 = zs.getD (i + n) 0 := fun z => c (decide_eq_true z)
          refine ⟨rfl, some (sgn r.1), some (natV r.2), ?_⟩
          rw [wOf_snoc ok hr2, if_neg c]; rfl
      · rintro σ' H2 ⟨rfl, x7, x8, rfl⟩
        have el : S.W.take ws.length = S.W := List.take_of_length_le (by rw [lw, len_rW]; exact Nat.le_refl _)
        rw [el]
        refine ⟨_, rfl, a, _, _, _, rfl, rfl, SqT.of e, rfl, ca, rfl, ⟨cs, SqT.of ec⟩, ?_⟩
        refine for_it (walk_tup (K := K) (a := ca) (xs := cs)) (fun m σ' H3 => H3 = H2 ∧ ∃ (x7 x8 x9 x10 : Option V), σ' = [some (.ref a), some (sV zs), some (.int (i : Int)), some (.int (j : Int)), some (sV (partN S zs i j n)), some (.int ((i + n : Nat) : Int)), some (.int ((wOf S.W (zs.getD (i + n) 0) : Int) - ((if i + n + 1 < j then cutOf (S.C.take m) (zs.getD (i + n) 0) (zs.getD (i + n + 1) 0) else 0 : Nat) : Int))), x7, x8, x9, x10]) ⟨rfl, x7, x8, x9, x10, ?_⟩ (fun _ _ _ _ h => by rw [h.1]; exact SqT.of ec) ?_ ?_
        · have : (if i + n + 1 < j then cutOf (S.C.take 0) (zs.getD (i + n) 0) (zs.getD (i + n + 1) 0) else 0) = 0 := by
            by_cases c : i + n + 1 < j
            · rw [if_pos c]; rfl
            · rw [if_neg c]
          rw [this]
          show _ = [_, _, _, _, _, _, some (V.int ((wOf S.W (zs.getD (i + n) 0) : Int) - 0)), _, _, _, _]
          rw [Int.sub_zero]; rfl
        · rintro m x σ' H3 H4 hm ⟨rfl, x7, x8, x9, x10, rfl⟩ ⟨rfl, hx⟩
          obtain ⟨r, b, hr1, rfl, hb1⟩ := RowsV.row lc hC hx
          obtain ⟨r, hr2, rfl⟩ := map_at2 hr1
          have en2 := cutOf_snoc ok.sc hr2 (zs.getD (i + n) 0) (zs.getD (i + n + 1) 0)
          have en3 : ¬ r.1 = (zs.getD (i + n) 0, zs.getD (i + n + 1) 0) → cutOf (S.C.take (m + 1)) (zs.getD (i + n) 0) (zs.getD (i + n + 1) 0) = cutOf (S.C.take m) (zs.getD (i + n) 0) (zs.getD (i + n + 1) 0) := fun h => by rw [en2, if_neg h, Nat.zero_add]
          refine ⟨b, _, rfl, SqT.of hb1, rfl, _, _, rfl, _, _, rfl, _, _, rfl, rfl, ?_⟩
          refine ⟨_, rfl, _, rfl, _, rfl, mkS zs, _, _, rfl, rfl, hb, atI_nat g0.1, rfl, decide (r.1.1 = zs.getD (i + n) 0), congrArg V.bl (sgn_eq _ _), ?_⟩
          by_cases c : r.1.1 = zs.getD (i + n) 0
          · rw [decide_eq_true c]
            have ek : ((i + n : Nat) : Int) + 1 = ((i + n + 1 : Nat) : Int) := rfl
            refine ⟨_, rfl, _, rfl, _, _, rfl, rfl, _, rfl, _, rfl, _, rfl, mkS zs, rfl, hb, ?_⟩
            rw [ek, cutMid (show i + n + 1 ≤ zs.length by omega) hj]
            refine ⟨_, rfl, _, rfl, by rw [mkS_len, List.length_take, List.length_drop]; exact big_ok (by omega), ?_⟩
            rw [cutOne]
            by_cases c2 : i + n + 1 < j
            · have g1 : zs[i + n + 1]? = some (zs.getD (i + n + 1) 0) := (wd.at (show i + n + 1 < zs.length by omega)).1
              have e5 : ((zs.drop (i + n + 1)).take (j - (i + n + 1))).take 1 = [zs.getD (i + n + 1) 0] := by
                rw [drop_y g1, List.take_take, Nat.min_eq_left (by omega), List.take_succ_cons, List.take_zero]
              rw [e5]
              refine ⟨_, rfl, rfl, decide (zs.getD (i + n + 1) 0 = r.1.2), congrArg V.bl (sgn_eq _ _), ite2 (fun c3 => ?_) (fun c3 => ?_)⟩
              · have c3 := of_decide_eq_true c3
                have ev : (wOf S.W (zs.getD (i + n) 0) : Int) - ((if i + n + 1 < j then cutOf (S.C.take m) (zs.getD (i + n) 0) (zs.getD (i + n + 1) 0) else 0 : Nat) : Int) - (r.2 : Int) = (wOf S.W (zs.getD (i + n) 0) : Int) - ((if i + n + 1 < j then cutOf (S.C.take (m + 1)) (zs.getD (i + n) 0) (zs.getD (i + n + 1) 0) else 0 : Nat) : Int) := by
                  rw [if_pos c2, if_pos c2, en2, if_pos (Prod.ext c c3.symm)]
                  omega
                refine ⟨_, rfl, _, rfl, _, _, rfl, rfl, rfl, some (sgn r.1.1), x8, some (sgn r.1.2), some (natV r.2), ?_⟩
                rw [← ev]; rfl
              · refine ⟨rfl, some (sgn r.1.1), x8, some (sgn r.1.2), some (natV r.2), ?_⟩
                rw [en3 (fun z => c3 (decide_eq_true (by rw [z])))]; rfl
            · have e5 : ((zs.drop (i + n + 1)).take (j - (i + n + 1))).take 1 = [] := by
                rw [show j - (i + n + 1) = 0 by omega, List.take_zero]; rfl
              rw [e5]
              refine ⟨_, rfl, rfl, false, bF (fun z => ?_), rfl, some (sgn r.1.1), x8, some (sgn r.1.2), some (natV r.2), ?_⟩
              · have z := congrArg (fun t : Str => t.cps.toList) (V.str.inj z)
                cases z
              · rw [if_neg c2, if_neg c2]; rfl
          · rw [decide_eq_false c]
            refine ⟨rfl, some (sgn r.1.1), x8, some (sgn r.1.2), some (natV r.2), ?_⟩
            rw [en3 (fun z => c (by rw [z]))]; rfl
        · rintro σ' H3 ⟨rfl, x7, x8, x9, x10, rfl⟩
          have el2 : S.C.take cs.length = S.C := List.take_of_length_le (by rw [lc, len_r2]; exact Nat.le_refl _)
          rw [el2]
          have ew2 : (wOf S.W (zs.getD (i + n) 0) : Int) - ((if i + n + 1 < j then cutOf S.C (zs.getD (i + n) 0) (zs.getD (i + n + 1) 0) else 0 : Nat) : Int) = ((wAt S zs j (i + n) : Nat) : Int) := by
            unfold wAt
            by_cases c : i + n + 1 < j
            · rw [if_pos c, if_pos c]
              have := cut_lt ok (zs.getD (i + n) 0) (zs.getD (i + n + 1) 0)
              omega
            · rw [if_neg c, if_neg c]; omega
          rw [ew2]
          have wb := wAt_bd ok zs j (i + n)
          obtain ⟨u, eu, hu⟩ : ∃ u : Nat, wAt S zs j (i + n) = u + 1 ∧ u ≤ 2 := ⟨wAt S zs j (i + n) - 1, by omega, by omega⟩
          have pl := partN_len ok zs i j n
          have mf := mul_fill hu
          refine ⟨_, rfl, _, rfl, _, rfl, mkS zs, _, _, rfl, rfl, hb, atI_nat g0.1, mkS (partN S zs i j n), mkS [zs.getD (i + n) 0], rfl, rfl, by rw [mkS_len, mkS_len]; exact big_ok (by show _ + 1 ≤ _; omega), ?_⟩
          refine ⟨_, rfl, _, _, rfl, rfl, _, _, rfl, rfl, by rw [eu]; show MulOk _ ((u : Int) + 1 - 1); rw [Int.add_sub_cancel]; exact mf.1, ?_⟩
          rw [eu]
          have e9 : ((u + 1 : Nat) : Int) - 1 = (u : Int) := by omega
          rw [e9, mf.2, mkS_app]
          refine ⟨_, _, rfl, rfl, ?_, ?_⟩
          · rw [mkS_len, mkS_len, List.length_append, List.length_replicate]; exact big_ok (by show _ + 1 + _ ≤ _; omega)
          · have e6 : partN S zs i j (n + 1) = partN S zs i j n ++ [zs.getD (i + n) 0] ++ List.replicate u 95 := by
              unfold partN
              rw [List.range'_1_concat, List.flatMap_append, List.append_assoc]
              congr 1
              show (zs.getD (i + n) 0 :: List.replicate (wAt S zs j (i + n) - 1) 95) ++ [] = _
              rw [eu, List.append_nil]; rfl
            refine ⟨rfl, some (.int ((i + n : Nat) : Int)), some (.int ((u + 1 : Nat) : Int)), x7, x8, x9, x10, ?_⟩
            rw [e6]
            have e7 : sV (partN S zs i j n ++ [zs.getD (i + n) 0] ++ List.replicate u 95) = V.str (mkS (partN S zs i j n ++ [zs.getD (i + n) 0]) ++ mkS (List.replicate u 95)) := by rw [mkS_app]; rfl
            rw [e7]; rfl
    · rintro σ' H' ⟨rfl, x5, x6, x7, x8, x9, x10, rfl⟩
      have pl := partN_len ok zs i j (j - i)
      refine ⟨_, rfl, _, rfl, mkS zs, rfl, hb, _, _, rfl, rfl, _, rfl, ite2 (fun c => ?_) (fun c => ?_)⟩
      · have c := of_decide_eq_true c
        rw [mkS_len] at c
        refine ⟨_, rfl, mkS (partN S zs i j (j - i)), _, rfl, rfl, by rw [mkS_len]; exact big_ok (by show _ + 1 ≤ _; omega), ?_⟩
        have e1 : pieceN S zs i j = partN S zs i j (j - i) ++ [45] := by
          unfold pieceN partN
          rw [if_pos (by omega)]
        rw [e1] at q
        have e2 : sV (partN S zs i j (j - i) ++ [45]) = V.str (mkS (partN S zs i j (j - i)) ++ mkS [45]) := by rw [mkS_app]; rfl
        rw [e2] at q
        exact q
      · have e1 : pieceN S zs i j = partN S zs i j (j - i) := by
          unfold pieceN partN
          rw [if_neg fun z => c (decide_eq_true (by rw [mkS_len]; omega)), List.append_nil]
        rw [e1] at q
        exact ⟨_, rfl, q⟩
end
end Vf

set_option Elab.async false
set_option linter.all false
set_option maxRecDepth 100000
set_option maxHeartbeats 4000000
namespace Vf
open PySem PySem.Spec PyProof.Rows L2 TL
/-! ### the law's own places, shapes and pieces -/
def PlAt (H : Hp) (x : V) (r : Nat × Nat) : Prop := ∃ b, x = .ref b ∧ H b = some (.tup [natV r.1, natV r.2])
def PlL (H : Hp) (vs : List V) (rs : List (Nat × Nat)) : Prop := vs.length = rs.length ∧ ∀ (i : Nat) (r : Nat × Nat), rs[i]? = some r → ∃ x, vs[i]? = some x ∧ PlAt H x r
theorem PlL.same {H H' : Hp} {vs : List V} {rs : List (Nat × Nat)} (h : PlL H vs rs) (k : ∀ a xs, H a = some (.tup xs) → H' a = some (.tup xs)) : PlL H' vs rs := ⟨h.1, fun i r e => by
  obtain ⟨x, e1, b, e2, e3⟩ := h.2 i r e
  exact ⟨x, e1, b, e2, k _ _ e3⟩⟩
theorem PlL.snoc {H : Hp} {vs : List V} {rs : List (Nat × Nat)} {x : V} {r : Nat × Nat} (h : PlL H vs rs) (hx : PlAt H x r) : PlL H (vs ++ [x]) (rs ++ [r]) := by
  refine ⟨by rw [List.length_append, List.length_append, h.1]; rfl, fun i q e => ?_⟩
  by_cases hi : i < rs.length
  · rw [List.getElem?_append_left hi] at e
    obtain ⟨y, e1, e2⟩ := h.2 i q e
    exact ⟨y, by rw [List.getElem?_append_left (by rw [h.1]; exact hi)]; exact e1, e2⟩
  · rw [List.getElem?_append_right (by omega)] at e
    have e0 : i - rs.length = 0 := by
      have := (List.getElem?_eq_some_iff.mp e).1
      simp at this
      exact this
    rw [e0] at e
    have e : r = q := Option.some.inj e
    subst e
    exact ⟨x, by rw [List.getElem?_append_right (by rw [h.1]; omega), h.1, e0]; rfl, hx⟩
theorem PlL.at {H : Hp} {vs : List V} {rs : List (Nat × Nat)} {i : Nat} {x : V} (h : PlL H vs rs) (hx : vs[i]? = some x) : ∃ r, rs[i]? = some r ∧ PlAt H x r := by
  have hi := (List.getElem?_eq_some_iff.mp hx).1
  have hi2 : i < rs.length := by rw [← h.1]; exact hi
  have g : rs[i]? = some rs[i] := List.getElem?_eq_getElem hi2
  obtain ⟨y, e1, e2⟩ := h.2 i _ g
  rw [hx] at e1
  have := Option.some.inj e1
  subst this
  exact ⟨_, g, e2⟩
/-- places up to a row of the breaks -/
def plM (S : Sty) (zs : List Nat) (n m : Nat) : List (Nat × Nat) := plN S zs n ++ ((look (S.B.take m) (zs.getD (n + 1) 0, zs.getD (n + 2) 0)).map fun p => (n + 2, p)).toList
theorem plM_zero (S : Sty) (zs : List Nat) (n : Nat) : plM S zs n 0 = plN S zs n := List.append_nil _
theorem plM_last (S : Sty) (zs : List Nat) (n : Nat) : plM S zs n S.B.length = plN S zs (n + 1) := by
  unfold plM
  rw [List.take_length, plN_succ]
theorem plM_hit {S : Sty} (ok : StyOk S) {zs : List Nat} {n m : Nat} {r : (Nat × Nat) × Nat} (hr : S.B[m]? = some r) (h : r.1 = (zs.getD (n + 1) 0, zs.getD (n + 2) 0)) : plM S zs n (m + 1) = plM S zs n m ++ [(n + 2, r.2)] := by
  unfold plM
  rw [take_succ' hr, look_snoc (fresh_2 ok.sb hr), if_pos h, look_none fun q hq z => fresh_2 ok.sb hr q hq (z.trans h.symm)]
  show plN S zs n ++ [(n + 2, r.2)] = plN S zs n ++ [] ++ [(n + 2, r.2)]
  rw [List.append_nil]
theorem plM_miss {S : Sty} (ok : StyOk S) {zs : List Nat} {n m : Nat} {r : (Nat × Nat) × Nat} (hr : S.B[m]? = some r) (h : ¬ r.1 = (zs.getD (n + 1) 0, zs.getD (n + 2) 0)) : plM S zs n (m + 1) = plM S zs n m := by
  unfold plM
  rw [take_succ' hr, look_snoc (fresh_2 ok.sb hr), if_neg h]
theorem plM_len (S : Sty) (zs : List Nat) (n m : Nat) : (plM S zs n m).length ≤ n + 1 := by
  unfold plM plN
  rw [List.length_append]
  have h1 := List.length_filterMap_le (fun k => (look S.B (zs.getD (k - 1) 0, zs.getD k 0)).map fun p => (k, p)) (List.range' 2 n)
  rw [List.length_range'] at h1
  have h2 : ((look (S.B.take m) (zs.getD (n + 1) 0, zs.getD (n + 2) 0)).map fun p => (n + 2, p)).toList.length ≤ 1 := by
    cases look (S.B.take m) (zs.getD (n + 1) 0, zs.getD (n + 2) 0) with
    | none => exact Nat.zero_le _
    | some p => exact Nat.le_refl _
  omega
section
variable {P : Program} {w : World} {K : PySem.W.Frag} {mg : Str → Option Value} {base : Heap}
def spLawPlaces : Sp := fun vs H Q _ => ∃ (v : V) (S : Sty) (zs : List Nat), vs = [v, sV zs] ∧ StyV H v S ∧ StyOk S ∧ WdOk zs ∧ ∀ (L : Addr) (ps : List V) H', H L = none → Same H H' → H' L = some (.lst ps) → PlL H' ps (places S zs) → Q (.ref L) H'
def spLawShape : Sp := fun vs H Q _ => ∃ (v : V) (S : Sty) (zs : List Nat), vs = [v, sV zs] ∧ StyV H v S ∧ StyOk S ∧ WdOk zs ∧ ∀ u H', Same H H' → ShapeV H' u S zs → Q u H'
theorem pieceW_small {S : Sty} (ok : StyOk S) {zs : List Nat} (i j : Nat) (wd : WdOk zs) (hj : j ≤ zs.length) : (pieceN S zs i j).length ≤ 100 := by
  have h := partN_len ok zs i j (j - i)
  have hl := wd.len
  unfold pieceN
  unfold partN at h
  rw [List.length_append]
  by_cases c : j < zs.length
  · rw [if_pos c]; show _ + 1 ≤ _; omega
  · rw [if_neg c]; show _ + 0 ≤ _; omega
end
end Vf

set_option Elab.async false
set_option linter.all false
set_option maxRecDepth 100000
set_option maxHeartbeats 4000000
namespace Vf
open PySem PySem.Spec PyProof.Rows L2
/-! ### set comprehensions of ints -/
/-- y is put into the set at D that is being made -/
def AddI (w : World) (D : Addr) (y : V) (H : Hp) (N : Hp → Prop) : Prop :=
  ∃ (k : Int) (S : Int → Bool) (n : Nat), y = .int k ∧ H D = some (SetO w D S n) ∧ n + 1 < scanBound ∧ N (upd H D (SetO w D (fun j => S j || decide (j = k)) (if S k = true then n else n + 1)))
theorem add_runs {Y : Cx} {ps : List (Addr × Obj)} {τ : L2.St} {H : Hp} {t : Shared} {D : Addr} {y : V} {u : Value} {N : Hp → Prop} {F : Value → Shared → Prop} {R : Value → Shared → Prop} (I : Inv Y ps τ H t) (ky : RelV y u) (h : AddI Y.w D y H N)
    (go : ∀ t' H', Inv Y ps τ H' t' → N H' → R .none t') :
    wpAny (model Y.prog Y.w) Y.A (call (.builtin "set.add") [.ref D, u]) R F t := by
  obtain ⟨k, S, n, ey, eD, room, hN⟩ := h
  subst ey
  obtain ⟨tk, rfl⟩ := ky
  refine setR_add (setO_get I eD) room fun h' same r => ?_
  have he : ∃ x, h'.get? D = some x := by
    obtain ⟨o, es, ep, tt, ho, rest⟩ := id r
    exact ⟨o, ho⟩
  exact go _ _ (I.write (e := D) (t' := t.toks + 1) (by rw [eD]; trivial) (.inl rfl) (fun b x hb hx => (same.2 b hb).trans hx) he (setO_new r)) hN
section
variable {X : Cx}
/-- {e for target in iter if ..}, e an int: D the new set -/
def tScI (w : World) (wi : TI) (g : TG) (tt : TT) (tk : TE) (own : List Nat) : TE := fun σ H Q => wi σ H fun J Ha => ∀ D, Ha D = none →
  ∃ W : Nat → Nat → Hp → Prop, (∃ m, W 0 m (upd Ha D (SetO w D (fun _ => false) 0))) ∧ ∀ i m Hb, W i m Hb → (J.stop i Hb ∧ Q (.ref D) Hb) ∨
    (J.go i Hb ∧ ∃ N : Hp → Prop, (∀ Hc, N Hc → ∃ m', m' < m ∧ W (i + 1) m' Hc) ∧ ∀ x Hc, J.yld i Hb x Hc →
      g x (wipe σ own) Hc fun σ2 H2 => wipe σ2 own = wipe σ own ∧ tt σ2 H2 fun b H3 => if b = true then tk σ2 H3 fun y H4 => AddI w D y H4 N else N H3)
/-- the block's promise of each part, wherever the block's own room comes to stand -/
abbrev InBlk (X : Cx) (scope : Scope) (R : Cx → Prop) : Prop := ∀ (s : Shared) (H : Hp) (C : Addr) (cl : List (Str × Addr)) (fp : List Addr), R (X.blk s H scope (compEnvC scope cl C X.env) fp)
theorem scI_core {pins : List (Addr × Obj)} {s : Shared} {σ : L2.St} {H : Hp} {Q : VK} {kx tg iter : Expr} {ifs : List Expr} {scope : Scope} {own : List (Str × Nat)} {pos pos' : Pos} {wi : TI} {g : TG} {tt : TT} {tk : TE} {use : Option (Value → Sem Unit)} {Qf : Value → Shared → Prop}
    (calm : X.calm = true) (nd : X.N.Nodup) (I : Inv X pins σ H s) (pi : PI X tg iter wi) (bk : BlkOk X.N X.env.scope scope own)
    (pg : InBlk X scope fun Y => PG Y tg g) (pt : InBlk X scope fun Y => PTs Y ifs tt) (pk : InBlk X scope fun Y => PE Y kx tk) (fold : ∀ x, foldedSetIterable iter X.env x = pure x)
    (h : tScI X.w wi g tt tk (own.map (·.2)) σ H Q)
    (leave : ∀ (D C : Addr) t ms H', Inv X pins σ H' t → Q (.ref D) H' → t.heap.Ns C ms → FpOk X pins H' C → compPost (model X.prog X.w) X.A X.xe use Qf (.ref D) C (.ok .next) t) :
    wpAny (model X.prog X.w) X.A (comprehension (.SetComp kx [⟨tg, iter, ifs, 0⟩] scope pos) scope X.env pos' (newSet (.type "set")) false (eval iter X.env) use) Qf X.xe s := by
  have has : ∀ y ∈ scope.names, y.2 = .free → ∃ c, X.env.cells.lookup y.1 = some c := by
    intro y hy e
    exact (bk.free y hy e).elim (fun k => I.ok.has _ (.inl k)) (fun k => I.ok.has _ (.inr k))
  refine wpAny_comprehension_free (use := use) rfl fold (closure_ok has) bk.kind (fun y hy e => (bk.uniq y hy).trans (congrArg some e)) ?_
  refine thn (pi.run pins s σ H _ I h) fun v0 s1 w1 => thn w1 fun v1 s2 w2 => ?_
  obtain ⟨it, fp, tn, J, Ha, rfl, Ia, T, st, fs, q⟩ := w2
  refine PpSet.newSet_ok (newEnv_comp ?_)
  -- the new set stands at D
  obtain ⟨D, eD⟩ : ∃ D, D = s2.heap.objs.size := ⟨_, rfl⟩
  obtain ⟨W, ⟨m0, w0⟩, turn⟩ := q D (Ia.hok.fresh (Nat.le_of_eq eD.symm))
  obtain ⟨s3, es3⟩ : ∃ s3 : Shared, s3 = { s2 with heap := s2.heap.push { cls := .type "set", dict := none, data := .set #[] 0 (.fresh 0 0 (!X.w.params.followText "set-order")) } } := ⟨_, rfl⟩
  have eh : s3.heap = s2.heap.push { cls := .type "set", dict := none, data := .set #[] 0 (.fresh 0 0 (!X.w.params.followText "set-order")) } := by rw [es3]
  rw [← es3, ← eD]
  have Ib : Inv X pins σ (upd Ha D (SetO X.w D (fun _ => false) 0)) s3 := by
    rw [es3, eD]
    exact Ia.laid (t' := s2.toks) (fun b o e => Heap.get?_push_of_some _ e) (Nat.le_refl _) (setO_new (setR_fresh X.w))
  have lt : ∀ b ∈ fp, b < D := fun b hb => by
    have ⟨o, e, _⟩ := T.obj _ _ st b hb
    rw [eD]; exact Heap.lt_size e
  have fd : ∀ b ∈ fp, (upd Ha D (SetO X.w D (fun _ => false) 0)) b = none := fun b hb => (upd_ne (Nat.ne_of_lt (lt b hb))).trans (fs b hb).1
  have f3 : ∀ b ∈ fp, FpOk X pins (upd Ha D (SetO X.w D (fun _ => false) 0)) b ∧ b < s3.heap.objs.size := fun b hb =>
    ⟨⟨fd b hb, (fs b hb).2⟩, by rw [eh, Heap.size_push, ← eD]; exact Nat.lt_succ_of_lt (lt b hb)⟩
  have st3 : tn 0 s3.heap := T.keep _ _ _ st fun b _ o e => by rw [eh]; exact Heap.get?_push_of_some _ e
  have Ic := block_start Ib bk nd f3
  have G := pg s3 (upd Ha D (SetO X.w D (fun _ => false) 0)) s3.heap.objs.size (cellsFrom (s3.heap.objs.size + 1) scope.names (cloFrom X.env.cells scope.names [])) fp
  have S := pt s3 (upd Ha D (SetO X.w D (fun _ => false) 0)) s3.heap.objs.size (cellsFrom (s3.heap.objs.size + 1) scope.names (cloFrom X.env.cells scope.names [])) fp
  have Kx := pk s3 (upd Ha D (SetO X.w D (fun _ => false) 0)) s3.heap.objs.size (cellsFrom (s3.heap.objs.size + 1) scope.names (cloFrom X.env.cells scope.names [])) fp
  obtain ⟨ce, ece⟩ : ∃ ce, ce = compEnvC scope (cellsFrom (s3.heap.objs.size + 1) scope.names (cloFrom X.env.cells scope.names [])) s3.heap.objs.size X.env := ⟨_, rfl⟩
  have cl : ce.locals = s3.heap.objs.size := by rw [ece]; rfl
  obtain ⟨s4, es4⟩ : ∃ s4 : Shared, s4 = { s3 with heap := pushCells (s3.heap.push { cls := .type "dict", data := .dict #[] }) scope.names } := ⟨_, rfl⟩
  rw [← ece] at Ic G S Kx
  rw [← es4] at Ic
  have st4 : tn 0 s4.heap := T.keep _ _ _ st3 fun b _ o e => by rw [es4]; exact pushCells_keeps _ _ _ _ (Heap.get?_push_of_some _ e)
  have pinned : ∀ {τ : L2.St} {H' : Hp} {t : Shared}, Inv (X.blk s3 (upd Ha D (SetO X.w D (fun _ => false) 0)) scope ce fp) [] τ H' t → (∀ b ∈ fp, H' b = none) → ∀ b ∈ fp, FpOk (X.blk s3 (upd Ha D (SetO X.w D (fun _ => false) 0)) scope ce fp) [] H' b := by
    intro τ H' t I' free b hb
    have e1 := I'.ok.exf b hb
    exact ⟨free b hb, e1.1, I'.ok.exfs b hb, .inl hb, fun x c e => e1.2 x c e, fun p hp => by cases hp⟩
  -- what the loop keeps at its turn number i
  let Keep : Nat → Shared → Prop := fun n t => ∃ i H', Inv (X.blk s3 (upd Ha D (SetO X.w D (fun _ => false) 0)) scope ce fp) [] (wipe σ (own.map (·.2))) H' t ∧ tn i t.heap ∧ (∀ b ∈ fp, H' b = none) ∧ W i n H'
  have runs : codeAny (model X.prog X.w) X.A (.compLoop (.SetComp kx [⟨tg, iter, ifs, 0⟩] scope pos) 0 (.ref it) (.ref D) ce)
      (compPost (model X.prog X.w) X.A X.xe use Qf (.ref D) s3.heap.objs.size) s4 := by
    refine PpSet.compLoopS_any Keep ?_ m0 ⟨0, _, Ic, st4, fd, w0⟩
    intro n t1 ⟨i, Hb, I1, z1, free, w1⟩
    rcases turn i n Hb w1 with ⟨stop, hQ⟩ | ⟨go, N, less, step⟩
    · -- no further thing: back in the def
      refine thnF (T.done (X.blk s3 (upd Ha D (SetO X.w D (fun _ => false) 0)) scope ce fp) rfl rfl rfl calm i [] t1 _ Hb (fun _ _ => False) I1 (pinned I1 free) z1 stop) fun r t2 ⟨er, I2⟩ => ?_
      subst er
      have Iz : Inv X pins σ Hb t2 := Ib.call' (ch := fp) I2.os I2.base I2.hok I2.bare fun b hb =>
        have f := (f3 b hb).1.2
        ⟨f.2.2.1, f.1, f.2.2.2.1, f.2.2.2.2⟩
      obtain ⟨ms, hns, _⟩ := I2.loc
      have hns : t2.heap.Ns ce.locals ms := hns
      have nl : Hb ce.locals = none := I2.free
      rw [cl] at hns nl
      exact leave D _ t2 ms Hb Iz hQ hns (Ib.fpOk (Nat.le_refl _) nl)
    · refine thnF (T.item (X.blk s3 (upd Ha D (SetO X.w D (fun _ => false) 0)) scope ce fp) rfl rfl rfl calm i [] t1 _ Hb (fun _ _ => False) I1 (pinned I1 free) z1 go) fun r t2 ⟨u, er, a2⟩ => ?_
      subst er
      refine thnF a2 fun _ t3 ⟨x, Hc, I3, rx, y3, z3, free3⟩ => ?_
      refine thnF (G.run _ t3 _ Hc x u _ (I3.pinned (pinned I3 free3) (T.obj _ _ z3)) rx (step x Hc y3)) fun _ t4 ⟨σ2, H2, I4, ew, q4⟩ => ?_
      refine thnF (S.run _ t4 σ2 H2 _ I4 q4) fun b t5 ⟨H3, I5, q5⟩ => ?_
      -- how a turn ends, in the room of the block
      have close : ∀ {t : Shared} {H' : Hp}, Inv (X.blk s3 (upd Ha D (SetO X.w D (fun _ => false) 0)) scope ce fp) ([] ++ pinsAt fp t3.heap) σ2 H' t → N H' → ∃ m, m < n ∧ Keep m t := by
        intro t H' I' hN
        obtain ⟨m', hm, w'⟩ := less H' hN
        have still : ∀ b ∈ fp, ∀ o, t3.heap.get? b = some o → t.heap.get? b = some o ∧ H' b = none := by
          intro b hb o e
          have p := I'.pin (b, o) (List.mem_append_right _ (List.mem_append_right _ (mem_pinsAt hb e)))
          exact ⟨p.1, p.2.1⟩
        have len : (wipe σ (own.map (·.2))).length = σ2.length := by rw [← ew]; exact wipe_length _ _
        refine ⟨m', hm, i + 1, H', (I'.unpinned (pins := [])).weak len fun j v e => ?_, T.keep _ _ _ z3 fun b hb o e => (still b hb o e).1, fun b hb => ?_, w'⟩
        · rw [← ew] at e; exact (wipe_some e).1
        · have ⟨o, e, _⟩ := T.obj _ _ z3 b hb
          exact (still b hb o e).2
      cases b with
      | false => exact close I5 q5
      | true =>
        refine thnF (Kx.run _ t5 σ2 H3 _ I5 q5) fun ku t6 ⟨y, H4, I6, ry, q6⟩ => ?_
        exact add_runs (Y := X.blk s3 (upd Ha D (SetO X.w D (fun _ => false) 0)) scope ce fp) I6 ry q6 fun t8 H6 I8 n8 => close I8 n8
  have whole := PpSet.codeAny_compStart_set runs (T.self X.A 0 _ _ _ st4 runs)
  rw [ece, es4] at whole
  exact whole
/-- as a value -/
theorem pe_scI {kx tg iter : Expr} {ifs : List Expr} {scope : Scope} {own : List (Str × Nat)} {pos : Pos} {wi : TI} {g : TG} {tt : TT} {tk : TE} (calm : X.calm = true) (nd : X.N.Nodup) (pi : PI X tg iter wi) (bk : BlkOk X.N X.env.scope scope own)
    (pg : InBlk X scope fun Y => PG Y tg g) (pt : InBlk X scope fun Y => PTs Y ifs tt) (pk : InBlk X scope fun Y => PE Y kx tk) (fold : ∀ x, foldedSetIterable iter X.env x = pure x := by intro _; rfl) :
    PE X (.SetComp kx [⟨tg, iter, ifs, 0⟩] scope pos) (tScI X.w wi g tt tk (own.map (·.2))) := by
  constructor
  intro pins s σ H Q I h
  rw [PpSet.eval_SetComp]
  refine scI_core calm nd I pi bk pg pt pk fold h fun D C t ms H' I' hQ hns f => ⟨ms, hns, fun h2 sb => ?_⟩
  exact ⟨.ref D, H', I'.turned (t' := t.toks) (fun b o hb e => (sb.2 b hb).trans e) f.1 f.2.1 f.2.2.2.1 f.2.2.2.2.1 f.2.2.2.2.2, rfl, hQ⟩
end
/-- over any walk: Pv by the turn and the heap -/
theorem scI_it {ww : World} {J : It} {n : Nat} {G : Hp → Prop} {Y : Nat → Hp → V → Hp → Prop} (w : Walk J n G Y) {g : TG} {tt : TT} {tk : TE} {own : List Nat} {σ : L2.St} {Ha : Hp} {D : Addr} {Qd : Hp → Prop} (Pv : Nat → Hp → Prop) (start : Pv 0 (upd Ha D (SetO ww D (fun _ => false) 0))) (stays : ∀ i H, i ≤ n → Pv i H → G H)
    (turn : ∀ i x H H', i < n → Pv i H → Y i H x H' → g x (wipe σ own) H' fun σ2 H2 => wipe σ2 own = wipe σ own ∧ tt σ2 H2 fun b H3 => if b = true then tk σ2 H3 fun y H4 => AddI ww D y H4 (Pv (i + 1)) else Pv (i + 1) H3)
    (after : ∀ H, Pv n H → Qd H) :
    ∃ W : Nat → Nat → Hp → Prop, (∃ m, W 0 m (upd Ha D (SetO ww D (fun _ => false) 0))) ∧ ∀ i m Hb, W i m Hb → (J.stop i Hb ∧ Qd Hb) ∨
      (J.go i Hb ∧ ∃ N : Hp → Prop, (∀ Hc, N Hc → ∃ m', m' < m ∧ W (i + 1) m' Hc) ∧ ∀ x Hc, J.yld i Hb x Hc →
        g x (wipe σ own) Hc fun σ2 H2 => wipe σ2 own = wipe σ own ∧ tt σ2 H2 fun b H3 => if b = true then tk σ2 H3 fun y H4 => AddI ww D y H4 N else N H3) := by
  refine ⟨fun i m H => m + i = n ∧ Pv i H, ⟨n, by omega, start⟩, fun i m Hb h => ?_⟩
  have ⟨e, p⟩ := h
  have ok := stays i Hb (by omega) p
  rcases Nat.lt_or_ge i n with lt | ge
  · refine .inr ⟨w.goes i Hb lt ok, Pv (i + 1), fun Hc q => ⟨m - 1, by omega, by omega, q⟩, fun x Hc y => turn i x Hb Hc lt p (w.yields i Hb x Hc lt ok y)⟩
  · obtain rfl : i = n := by omega
    exact .inl ⟨w.stops Hb ok, after Hb p⟩
end Vf

set_option Elab.async false
set_option linter.all false
set_option maxRecDepth 100000
set_option maxHeartbeats 4000000
namespace Vf
open PySem PySem.Spec PyProof.Rows L2 TL
/-! ### data made of tuples -/
/-- all tuples stand -/
def TK (H H' : Hp) : Prop := ∀ a xs, H a = some (.tup xs) → H' a = some (.tup xs)
theorem TK.refl (H : Hp) : TK H H := fun _ _ h => h
theorem TK.trans {H H1 H2 : Hp} (a : TK H H1) (b : TK H1 H2) : TK H H2 := fun x xs h => b x xs (a x xs h)
theorem TK.kp {d l : Addr} {H H' : Hp} (D : DI d l H) (k : Kp d H H') : TK H H' := kpTup D k
theorem TK.same {H H' : Hp} (k : Same H H') : TK H H' := fun a xs e => k _ _ e
theorem TK.new {H H' : Hp} {p : Addr} {o : HO} (k : TK H H') (hp : H' p = none) : TK H (upd H' p o) := fun a xs e => by
  have e := k _ _ e
  rw [upd_ne (ne_of_none e hp)]; exact e
theorem TK.mut {H H' : Hp} {p : Addr} {us : List V} {o : HO} (k : TK H H') (hp : H' p = some (.lst us)) : TK H (upd H' p o) := fun a xs e => by
  have e := k _ _ e
  have n : a ≠ p := fun z => by rw [z, hp] at e; cases e
  rw [upd_ne n]; exact e
/-- a relation of things that holds on while all tuples stand -/
structure Mn {α : Type} (R : Hp → V → α → Prop) : Prop where
  to : ∀ {H H' : Hp} {v : V} {x : α}, R H v x → TK H H' → R H' v x
def natR : Hp → V → Nat → Prop := fun _ v n => v = nV n
theorem nV_inj {a b : Nat} (h : nV a = nV b) : a = b := by
  have := V.int.inj h
  omega
theorem natR_mn : Mn natR := ⟨fun h _ => h⟩
def TupR {α : Type} (R : Hp → V → α → Prop) (H : Hp) (v : V) (xs : List α) : Prop := ∃ a us, v = .ref a ∧ H a = some (.tup us) ∧ LV (R H) us xs
theorem TupR.mn {α : Type} {R : Hp → V → α → Prop} (m : Mn R) : Mn (TupR R) := ⟨fun h k => by
  obtain ⟨a, us, e, h1, h2⟩ := h
  exact ⟨a, us, e, k _ _ h1, h2.mono fun _ _ z => m.to z k⟩⟩
def PairR {α β : Type} (R : Hp → V → α → Prop) (S : Hp → V → β → Prop) (H : Hp) (v : V) (p : α × β) : Prop := ∃ a u w, v = .ref a ∧ H a = some (.tup [u, w]) ∧ R H u p.1 ∧ S H w p.2
theorem PairR.mn {α β : Type} {R : Hp → V → α → Prop} {S : Hp → V → β → Prop} (m : Mn R) (n : Mn S) : Mn (PairR R S) := ⟨fun h k => by
  obtain ⟨a, u, w, e, h1, h2, h3⟩ := h
  exact ⟨a, u, w, e, k _ _ h1, m.to h2 k, n.to h3 k⟩⟩
theorem LV.nats : ∀ {us : List V} {xs : List Nat}, LV (natR H) us xs → us = xs.map nV := by
  intro us xs h
  refine List.ext_getElem? fun i => ?_
  rw [List.getElem?_map]
  by_cases hi : i < xs.length
  · obtain ⟨x, e, r⟩ := h.2 i _ (List.getElem?_eq_getElem hi)
    rw [e, List.getElem?_eq_getElem hi, show x = nV xs[i] from r]; rfl
  · rw [List.getElem?_eq_none (by rw [h.1]; omega), List.getElem?_eq_none (by omega)]; rfl
theorem LV.of_nats (H : Hp) (xs : List Nat) : LV (natR H) (xs.map nV) xs := ⟨List.length_map _, fun i r e => ⟨nV r, by rw [List.getElem?_map, e]; rfl, rfl⟩⟩
/-- a tuple of numbers -/
def NsR : Hp → V → List Nat → Prop := fun H v xs => ∃ a, v = .ref a ∧ H a = some (.tup (xs.map nV))
theorem NsR.mn : Mn NsR := ⟨fun h k => by
  obtain ⟨a, e, h⟩ := h
  exact ⟨a, e, k _ _ h⟩⟩
theorem NsR.of {H : Hp} {v : V} {xs : List Nat} (h : TupR natR H v xs) : NsR H v xs := by
  obtain ⟨a, us, e, h1, h2⟩ := h
  rw [h2.nats] at h1
  exact ⟨a, e, h1⟩
theorem NsR.new {H : Hp} {p : Addr} {xs : List Nat} : NsR (upd H p (.tup (xs.map nV))) (.ref p) xs := ⟨p, rfl, upd_same⟩
theorem LV.get {α : Type} {R : V → α → Prop} {vs : List V} {rs : List α} {i : Nat} (h : LV R vs rs) (hi : i < rs.length) : ∃ x, vs[i]? = some x ∧ R x rs[i] := h.2 i _ (List.getElem?_eq_getElem hi)
theorem LV.get0 {α : Type} {R : V → α → Prop} {vs : List V} {rs : List α} {i : Nat} (d : α) (h : LV R vs rs) (hi : i < rs.length) : ∃ x, vs[i]? = some x ∧ R x (rs.getD i d) := by
  obtain ⟨x, e, r⟩ := h.get hi
  refine ⟨x, e, ?_⟩
  rw [List.getD_eq_getElem?_getD, List.getElem?_eq_getElem hi]; exact r
theorem LV.app2 {α : Type} {R : V → α → Prop} {us vs : List V} {rs ss : List α} (h : LV R us rs) (k : LV R vs ss) : LV R (us ++ vs) (rs ++ ss) := by
  refine ⟨by rw [List.length_append, List.length_append, h.1, k.1], fun i r e => ?_⟩
  by_cases hi : i < rs.length
  · rw [List.getElem?_append_left hi] at e
    obtain ⟨y, e1, e2⟩ := h.2 i r e
    exact ⟨y, by rw [List.getElem?_append_left (by rw [h.1]; exact hi)]; exact e1, e2⟩
  · rw [List.getElem?_append_right (by omega)] at e
    obtain ⟨y, e1, e2⟩ := k.2 _ r e
    exact ⟨y, by rw [List.getElem?_append_right (by rw [h.1]; omega), h.1]; exact e1, e2⟩
theorem nat_at {xs : List Nat} {i : Nat} (h : i < xs.length) : (xs.map nV)[i]? = some (nV (xs.getD i 0)) := by
  rw [List.getElem?_map, List.getD_eq_getElem?_getD, List.getElem?_eq_getElem h]; rfl
theorem getD_mem {α : Type} {xs : List α} {i : Nat} {d : α} (h : i < xs.length) : xs.getD i d ∈ xs := by
  rw [List.getD_eq_getElem?_getD, List.getElem?_eq_getElem h]; exact List.getElem_mem h
theorem getD_of {α : Type} {xs : List α} {i : Nat} {x d : α} (h : xs[i]? = some x) : xs.getD i d = x := by
  rw [List.getD_eq_getElem?_getD, h]; rfl
theorem take_one {α : Type} {xs : List α} {i : Nat} {x : α} (h : xs[i]? = some x) : xs.take (i + 1) = xs.take i ++ [x] := by
  rw [List.take_add_one, h]; rfl
theorem take_oneD {α : Type} {xs : List α} {i : Nat} (d : α) (h : i < xs.length) : xs.take (i + 1) = xs.take i ++ [xs.getD i d] := by
  rw [take_one (List.getElem?_eq_getElem h), List.getD_eq_getElem?_getD, List.getElem?_eq_getElem h]; rfl
theorem mem_at {α : Type} {xs : List α} {x : α} (h : x ∈ xs) : ∃ i, i < xs.length ∧ xs[i]? = some x := by
  obtain ⟨i, hi, e⟩ := List.mem_iff_getElem.mp h
  exact ⟨i, hi, by rw [List.getElem?_eq_getElem hi, e]⟩
theorem flat_nats (xs : List Nat) : (xs.map nV).all flatV = true := List.all_eq_true.mpr fun v hv => by
  obtain ⟨x, _, rfl⟩ := List.mem_map.mp hv
  rfl
theorem eqV_nat (x y : Nat) : eqV (nV y) (nV x) = decide (y = x) := by
  show eqV (.int (y : Int)) (.int (x : Int)) = _
  by_cases h : y = x
  · subst h; rw [decide_eq_true rfl]; simp [eqV]
  · rw [decide_eq_false h]
    have : ¬ (y : Int) = (x : Int) := by omega
    simp [eqV, this]
theorem inV_nats (x : Nat) (xs : List Nat) : inV (nV x) (xs.map nV) = decide (x ∈ xs) := by
  unfold inV
  rw [List.any_map]
  by_cases h : x ∈ xs
  · rw [decide_eq_true h]
    refine List.any_eq_true.mpr ⟨x, h, ?_⟩
    show eqV (nV x) (nV x) = true
    rw [eqV_nat]; exact decide_eq_true rfl
  · rw [decide_eq_false h]
    refine List.any_eq_false.mpr fun y hy => ?_
    show ¬ eqV (nV y) (nV x) = true
    rw [eqV_nat]
    exact fun z => h (of_decide_eq_true z ▸ hy)
/-! ### what is met, each thing once -/
def met : List Nat → List Nat := fun l => l.foldl (fun acc x => if x ∈ acc then acc else acc ++ [x]) []
theorem met_snoc (l : List Nat) (x : Nat) : met (l ++ [x]) = if x ∈ met l then met l else met l ++ [x] := by
  unfold met; rw [List.foldl_append]; rfl
theorem list_snoc {α : Type} {p : List α → Prop} (h0 : p []) (hs : ∀ l x, p l → p (l ++ [x])) : ∀ l, p l := by
  intro l
  have : ∀ n (l : List α), l.length = n → p l := by
    intro n
    induction n with
    | zero => intro l e; rw [List.length_eq_zero_iff.mp e]; exact h0
    | succ n ih =>
      intro l e
      have hne : l ≠ [] := fun z => by rw [z] at e; cases e
      rw [← List.dropLast_concat_getLast hne]
      exact hs _ _ (ih _ (by rw [List.length_dropLast, e]; rfl))
  exact this _ l rfl
theorem met_mem (l : List Nat) : ∀ x, x ∈ met l ↔ x ∈ l := by
  refine list_snoc (p := fun l => ∀ x, x ∈ met l ↔ x ∈ l) (fun x => Iff.rfl) (fun l y ih x => ?_) l
  rw [met_snoc, List.mem_append, List.mem_singleton]
  by_cases h : y ∈ met l
  · rw [if_pos h, ih]
    exact ⟨.inl, fun z => z.elim id fun e => e ▸ (ih y).mp h⟩
  · rw [if_neg h, List.mem_append, ih, List.mem_singleton]
theorem met_nodup (l : List Nat) : (met l).Nodup := by
  refine list_snoc (p := fun l => (met l).Nodup) List.nodup_nil (fun l y ih => ?_) l
  rw [met_snoc]
  by_cases h : y ∈ met l
  · rw [if_pos h]; exact ih
  · rw [if_neg h, List.nodup_append]
    exact ⟨ih, by simp, fun a ha b hb e => h (by rw [List.mem_singleton.mp hb] at e; exact e ▸ ha)⟩
theorem met_len (l : List Nat) : (met l).length ≤ l.length := by
  refine list_snoc (p := fun l => (met l).length ≤ l.length) (Nat.le_refl _) (fun l y ih => ?_) l
  rw [met_snoc, List.length_append]
  split
  · exact Nat.le_trans ih (Nat.le_add_right _ _)
  · rw [List.length_append]; exact Nat.add_le_add_right ih _
theorem perm_nodup {α : Type} [DecidableEq α] : ∀ {xs ys : List α}, xs.Nodup → ys.Nodup → (∀ x, x ∈ xs ↔ x ∈ ys) → xs.Perm ys
  | [], ys, _, _, h => by
    cases ys with
    | nil => exact .nil
    | cons y ys => exact absurd ((h y).mpr List.mem_cons_self) (by simp)
  | x :: xs, ys, hx, hy, h => by
    have ⟨nx, hx⟩ := List.nodup_cons.mp hx
    have mx := (h x).mp List.mem_cons_self
    refine (List.Perm.cons x (perm_nodup (ys := ys.erase x) hx (hy.erase x) fun z => ?_)).trans (List.perm_cons_erase mx).symm
    rw [hy.mem_erase_iff]
    constructor
    · intro hz
      exact ⟨fun e => nx (e ▸ hz), (h z).mp (List.mem_cons_of_mem _ hz)⟩
    · rintro ⟨ne, hz⟩
      exact (List.mem_cons.mp ((h z).mpr hz)).resolve_left ne
theorem sum_cast : ∀ xs : List Nat, (xs.map (fun x : Nat => (x : Int))).sum = ((xs.sum : Nat) : Int)
  | [] => rfl
  | x :: xs => by rw [List.map_cons, List.sum_cons, List.sum_cons, sum_cast xs]; omega
theorem map_nV (xs : List Nat) : xs.map nV = (xs.map (fun x : Nat => (x : Int))).map V.int := by
  rw [List.map_map]; rfl
theorem sum_perm {xs ys : List Nat} (h : xs.Perm ys) : xs.sum = ys.sum := by
  induction h with
  | nil => rfl
  | cons x _ ih => rw [List.sum_cons, List.sum_cons, ih]
  | swap x y l => simp only [List.sum_cons]; omega
  | trans _ _ a b => exact a.trans b
theorem nat_cmp (f : Int → Int → Bool) (x y : Nat) : V.bl (f (x : Int) (y : Int)) = V.bl (f (x : Int) (y : Int)) := rfl
theorem int_nats : ∀ {ns : List Int}, (∀ x ∈ ns, ∃ k : Nat, x = (k : Int)) → ∃ ms : List Nat, ns = ms.map fun x : Nat => (x : Int)
  | [], _ => ⟨[], rfl⟩
  | x :: ns, h => by
    obtain ⟨k, rfl⟩ := h x List.mem_cons_self
    obtain ⟨ms, rfl⟩ := int_nats (ns := ns) fun y hy => h y (List.mem_cons_of_mem _ hy)
    exact ⟨k :: ms, rfl⟩
theorem nodup_of_lt {ms : List Nat} (h : (ms.map fun x : Nat => (x : Int)).Pairwise (· < ·)) : ms.Nodup := by
  rw [List.pairwise_map] at h
  exact h.imp fun {a b} z e => by subst e; omega
theorem map_Vint (ms : List Nat) : (ms.map fun x : Nat => (x : Int)).map V.int = ms.map nV := by rw [List.map_map]; rfl
theorem Same.mn {α : Type} {R : Hp → V → α → Prop} (m : Mn R) {H H' : Hp} {v : V} {x : α} (h : R H v x) (k : Same H H') : R H' v x := m.to h (TK.same k)
end Vf

set_option Elab.async false
set_option linter.all false
set_option maxRecDepth 100000
set_option maxHeartbeats 4000000
namespace Vf
open PySem PySem.Spec PyProof.Rows L2 TL
/-- the scope of a comprehension within one whose def has the scope d -/
def rel2 (inner d : Scope) : Scope := { inner with
  names := inner.names.map fun nk =>
    match nk with
    | (y, kk) => if (kk == .free && d.kind == .function && d.names.lookup y == some .cell) then (y, .cell) else (y, kk) }
def rTupleOf (K : PySem.W.Frag) : List V → Hp → VK → Prop := fun args H Q =>
  ∃ p ys, args = [V.ref p] ∧ ((SqL K H p ys ∧ ∀ l : Addr, H l = none → Q (.ref l) (upd H l (.tup ys))) ∨
    (SqT K H p ys ∧ Q (.ref p) H))
def rListOf (K : PySem.W.Frag) : List V → Hp → VK → Prop := fun args H Q =>
  ∃ p ys, args = [V.ref p] ∧ (SqL K H p ys ∨ SqT K H p ys) ∧
    ∀ l : Addr, H l = none → Q (.ref l) (upd H l (.lst ys))
def tTru (K : PySem.W.Frag) (ta : TE) : TT := fun σ H Q => ta σ H fun x H' => ∃ k, TruV K x H' k ∧ Q k H'
theorem pt_tru {X : Cx} {K : PySem.W.Frag} {a : Expr} {ta : TE} (hK : X.K = K) (ha : PE X a ta) (he : ∀ whole, isTrue a X.env whole = (do let v ← whole; standAt a.pos; holding [v] (truthy v))) : PT X a (tTru K ta) := by
  subst hK
  exact pt_truth ha he
theorem pi_or {X : Cx} {tg iter : Expr} {wa wb : TI} (ha : PI X tg iter wa) (hb : PI X tg iter wb) : PI X tg iter (fun σ H R => wa σ H R ∨ wb σ H R) :=
  ⟨fun pins s σ H R I h => h.elim (ha.run pins s σ H R I) (hb.run pins s σ H R I)⟩
theorem hu65 {k : Nat} {A : Around} (r : Room k A) : A.units + 65 < cLine := by have := r.un; omega
/-! ### tuples of numbers as data -/
def dN (xs : List Nat) : PyData := .tuple (xs.map fun x : Nat => .int (x : Int))
theorem dp_nats {K : PySem.W.Frag} {H : Hp} : ∀ xs : List Nat, DpAll K H (xs.map nV) (xs.map fun x : Nat => .int (x : Int))
  | [] => .nil
  | x :: xs => .cons (.int (x : Int)) (dp_nats xs)
theorem dN_dp {K : PySem.W.Frag} {H : Hp} {v : V} {xs : List Nat} (h : NsR H v xs) : Dp K H v (dN xs) := by
  obtain ⟨a, rfl, e⟩ := h
  exact .tup (SqT.of e) (dp_nats xs)
theorem dNs_dp {K : PySem.W.Frag} {H : Hp} : ∀ {us : List V} {F : List (List Nat)}, LV (NsR H) us F → DpAll K H us (F.map dN)
  | [], [], _ => .nil
  | [], _ :: _, h => by have := h.1; cases this
  | _ :: _, [], h => by have := h.1; cases this
  | u :: us, f :: F, h => by
    obtain ⟨x, e, r⟩ := h.2 0 f rfl
    have e := Option.some.inj e
    subst e
    exact .cons (dN_dp r) (dNs_dp ⟨Nat.succ.inj h.1, fun i r e => h.2 (i + 1) r e⟩)
theorem nats_lay : ∀ xs : List Nat, PyData.canLayAll0 (xs.map fun x : Nat => .int (x : Int)) = true
  | [] => by simp [PyData.canLayAll0]
  | x :: xs => by simp [PyData.canLayAll0, PyData.canLay0, nats_lay xs]
theorem nats_depth : ∀ xs : List Nat, PyData.depthAll (xs.map fun x : Nat => .int (x : Int)) = 0
  | [] => by simp [PyData.depthAll]
  | x :: xs => by simp [PyData.depthAll, PyData.depth, nats_depth xs]
theorem dN_lay (xs : List Nat) : (dN xs).canLay0 = true := by
  unfold dN; simp only [PyData.canLay0]; exact nats_lay xs
theorem dN_depth (xs : List Nat) : (dN xs).depth = 1 := by
  unfold dN; simp only [PyData.depth, nats_depth]
theorem dNs_lay : ∀ F : List (List Nat), PyData.canLayAll0 (F.map dN) = true
  | [] => by simp [PyData.canLayAll0]
  | x :: xs => by simp [PyData.canLayAll0, dN_lay x, dNs_lay xs]
theorem dNs_depth : ∀ F : List (List Nat), PyData.depthAll (F.map dN) ≤ 1
  | [] => by simp [PyData.depthAll]
  | x :: xs => by
    have h1 := dNs_depth xs
    have h2 := dN_depth x
    simp only [List.map_cons, PyData.depthAll]
    omega
theorem dN_shaped (xs : List Nat) : SeqAt.shaped (dN xs) = true := Bool.and_eq_true_iff.mpr ⟨dN_lay xs, decide_eq_true (by rw [dN_depth]; decide)⟩
theorem dNs_shaped (F : List (List Nat)) : SeqAt.shaped (.list (F.map dN)) = true :=
  Bool.and_eq_true_iff.mpr ⟨by simp only [PyData.canLay0]; exact dNs_lay F, decide_eq_true (by simp only [PyData.depth]; have := dNs_depth F; omega)⟩
theorem nats_eqv : ∀ xs ys : List Nat, PyData.eqvAll (xs.map fun x : Nat => .int (x : Int)) (ys.map fun x : Nat => .int (x : Int)) = decide (xs = ys)
  | [], [] => by simp [PyData.eqvAll]
  | [], _ :: _ => by simp [PyData.eqvAll]
  | _ :: _, [] => by simp [PyData.eqvAll]
  | x :: xs, y :: ys => by
    simp only [List.map_cons, PyData.eqvAll, PyData.eqv, nats_eqv xs ys]
    by_cases h1 : x = y
    · subst h1
      by_cases h2 : xs = ys
      · subst h2; simp
      · simp [h2]
    · have : ¬ (x : Int) = (y : Int) := by omega
      simp [h1, this]
theorem dN_eqv (xs ys : List Nat) : PyData.eqv (dN xs) (dN ys) = decide (xs = ys) := by
  unfold dN; simp only [PyData.eqv]; exact nats_eqv xs ys
theorem dNs_any (F : List (List Nat)) (f : List Nat) : ((F.map dN).any fun z => PyData.eqv z (dN f)) = decide (f ∈ F) := by
  rw [List.any_map]
  by_cases h : f ∈ F
  · rw [decide_eq_true h]
    exact List.any_eq_true.mpr ⟨f, h, by show PyData.eqv (dN f) (dN f) = true; rw [dN_eqv]; exact decide_eq_true rfl⟩
  · rw [decide_eq_false h]
    refine List.any_eq_false.mpr fun y hy => ?_
    show ¬ PyData.eqv (dN y) (dN f) = true
    rw [dN_eqv]
    exact fun z => h (of_decide_eq_true z ▸ hy)
/-- sorted of a list of tuples of equally many small ints -/
def rSortX (K : PySem.W.Frag) : List V → Hp → VK → Prop := fun vs H Q => ∃ (d : Nat) (B : Int), 1 ≤ d ∧ rSortU K d B vs H Q
theorem cr_sortX {X : Cx} : CallR X (.builtin "sorted") (rSortX X.K) := by
  intro pins s σ H vs us Q I r h
  obtain ⟨d, B, hd, h⟩ := h
  exact cr_sortT hd pins s σ H vs us Q I r h
theorem LV.perm {α : Type} {R : V → α → Prop} {us ws : List V} (hp : us.Perm ws) : ∀ {rs : List α}, LV R ws rs → ∃ ss, LV R us ss ∧ ss.Perm rs := by
  induction hp with
  | nil =>
    intro rs h
    have : rs = [] := List.length_eq_zero_iff.mp h.1.symm
    subst this
    exact ⟨[], LV.nil, .nil⟩
  | @cons x l₁ l₂ _ ih =>
    intro rs h
    cases rs with
    | nil => have := h.1; cases this
    | cons r rs =>
      obtain ⟨y, e, hr⟩ := h.2 0 r rfl
      have e := Option.some.inj e
      subst e
      obtain ⟨ss, h1, h2⟩ := ih (rs := rs) ⟨Nat.succ.inj h.1, fun i r e => h.2 (i + 1) r e⟩
      refine ⟨r :: ss, ⟨by rw [List.length_cons, List.length_cons, h1.1], fun i q e => ?_⟩, h2.cons r⟩
      cases i with
      | zero => exact ⟨_, rfl, (Option.some.inj e) ▸ hr⟩
      | succ i => exact h1.2 i q e
  | swap x y l =>
    intro rs h
    match rs, h with
    | [], h => have := h.1; cases this
    | [_], h => have := h.1; cases this
    | r :: s :: rs, h =>
      obtain ⟨y1, e, hr⟩ := h.2 0 r rfl
      have e := Option.some.inj e
      subst e
      obtain ⟨y2, e, hs⟩ := h.2 1 s rfl
      have e := Option.some.inj e
      subst e
      refine ⟨s :: r :: rs, ⟨h.1, fun i q e => ?_⟩, .swap _ _ _⟩
      match i, e with
      | 0, e => exact ⟨_, rfl, (Option.some.inj e) ▸ hs⟩
      | 1, e => exact ⟨_, rfl, (Option.some.inj e) ▸ hr⟩
      | i + 2, e => exact h.2 (i + 2) q e
  | trans _ _ a b =>
    intro rs h
    obtain ⟨ss, h1, p1⟩ := b h
    obtain ⟨ts, h2, p2⟩ := a h1
    exact ⟨ts, h2, p2.trans p1⟩
theorem fdiv_nV (a b : Nat) : V.int ((a : Int).fdiv (b : Int)) = nV (a / b) := by
  rw [Int.fdiv_eq_ediv_of_nonneg _ (by omega)]; rfl
theorem fmod_nV (a b : Nat) : V.int ((a : Int).fmod (b : Int)) = nV (a % b) := by
  rw [Int.fmod_eq_emod_of_nonneg _ (by omega)]; rfl
theorem low_snoc {os S : List Nat} {j g : Nat} (lo : os.length = j) (ho : ∀ s, s < j → os.getD s 0 < S.getD s 0) (hg : g < S.getD j 0) : ∀ s, s < j + 1 → (os ++ [g]).getD s 0 < S.getD s 0 := fun s hs => by
  rcases Nat.lt_or_ge s j with h | h
  · rw [List.getD_eq_getElem?_getD, List.getElem?_append_left (by omega), ← List.getD_eq_getElem?_getD]; exact ho s h
  · have : s = j := by omega
    subst this
    rw [List.getD_eq_getElem?_getD, List.getElem?_append_right (by omega), lo, Nat.sub_self]; exact hg
theorem PE.to {X : Cx} {e : Expr} {t t' : TE} (h : PE X e t) (i : ∀ σ H Q, t' σ H Q → t σ H Q) : PE X e t' := ⟨fun pins s σ H Q I hq => h.run pins s σ H Q I (i σ H Q hq)⟩
theorem rgV_nats (n : Nat) : rgV 0 (n : Int) = (List.range n).map nV := by
  unfold rgV
  rw [show ((n : Int) - 0).toNat = n by omega]
  refine List.map_congr_left fun i _ => ?_
  rw [Int.zero_add]; rfl
theorem toNat_k {n : Nat} : ((n : Nat) : Int).toNat = n := Int.toNat_natCast n
theorem int0 (i : Nat) : V.int (0 + (i : Int)) = nV i := by rw [Int.zero_add]; rfl
theorem ixN_last {n : Nat} (h : 0 < n) : ixN n (-1) = some (n - 1) := by
  unfold ixN
  rw [if_neg (by decide), if_pos (by omega)]
  congr 1
  omega
theorem atI_l {α : Type} {xs : List α} {v : α} (h : xs[xs.length - 1]? = some v) : atI xs (-1) = some v := by
  have h0 : 0 < xs.length := by
    have := (List.getElem?_eq_some_iff.mp h).1
    omega
  unfold atI
  rw [ixN_last h0]
  exact h
def isN (lo hi : Nat) : V → Bool
  | .int g => decide ((lo : Int) ≤ g) && decide (g ≤ (hi : Int))
  | _ => false
theorem isN_of {lo hi : Nat} {v : V} (h : isN lo hi v = true) : ∃ m : Nat, v = nV m ∧ lo ≤ m ∧ m ≤ hi := by
  cases v with
  | int g =>
    have ⟨a, b⟩ := Bool.and_eq_true_iff.mp h
    have a := of_decide_eq_true a
    have b := of_decide_eq_true b
    exact ⟨g.toNat, by unfold nV; rw [Int.toNat_of_nonneg (by omega)], by omega, by omega⟩
  | _ => cases h
theorem none_kp {d : Addr} {H H' : Hp} {b : Addr} (k : Kp d H H') (n : b ≠ d) (h : H' b = none) : H b = none := by
  cases e : H b with
  | none => rfl
  | some o => rw [k _ _ n e] at h; cases h
theorem none_same {H H' : Hp} {b : Addr} (k : Same H H') (h : H' b = none) : H b = none := by
  cases e : H b with
  | none => rfl
  | some o => rw [k _ _ e] at h; cases h
theorem draw_nt {m r : Int} (h : 0 < m) (e1 : m < 2 → r = 0) (e2 : 2 ≤ m → 0 ≤ r ∧ r < m) : ∃ j : Nat, r = (j : Int) ∧ (j : Int) < m := by
  by_cases c : m < 2
  · exact ⟨0, e1 c, by omega⟩
  · have := e2 (by omega)
    exact ⟨r.toNat, by omega, by omega⟩
end Vf

set_option Elab.async false
set_option linter.all false
set_option maxRecDepth 100000
set_option maxHeartbeats 4000000
namespace Vf
open PySem PySem.Spec PyProof.Rows L2 TL
/-! ### signs_of, and the sum of the widths -/
def hyph (zs : List Nat) (j : Nat) : List Nat := if j < zs.length then [45] else []
theorem pieceN_eq (S : Sty) (zs : List Nat) (i j : Nat) : pieceN S zs i j = partN S zs i j (j - i) ++ hyph zs j := rfl
def bitN (S : Sty) (zs : List Nat) (j k : Nat) : List Nat := zs.getD k 0 :: List.replicate (wAt S zs j k - 1) 95
theorem partN_succ (S : Sty) (zs : List Nat) (i j n : Nat) : partN S zs i j (n + 1) = partN S zs i j n ++ bitN S zs j (i + n) := by
  unfold partN
  rw [List.range'_1_concat, List.flatMap_append]
  congr 1
  show bitN S zs j (i + n) ++ [] = _
  rw [List.append_nil]
def bitsN (S : Sty) (zs : List Nat) (i j n : Nat) : List (List Nat) := (List.range' i n).map (bitN S zs j)
theorem bitsN_succ (S : Sty) (zs : List Nat) (i j n : Nat) : bitsN S zs i j (n + 1) = bitsN S zs i j n ++ [bitN S zs j (i + n)] := by
  unfold bitsN
  rw [List.range'_1_concat, List.map_append]; rfl
theorem bits_flat (S : Sty) (zs : List Nat) (i j n : Nat) : (bitsN S zs i j n).flatten = partN S zs i j n := rfl
section
variable {P : Program} {w : World} {K : PySem.W.Frag} {mg : Str → Option Value} {base : Heap}
def spSignsOf : Sp := fun vs H Q _ => ∃ (v : V) (S : Sty) (zs : List Nat) (i j : Nat), vs = [v, sV zs, .int (i : Int), .int (j : Int)] ∧ StyV H v S ∧ StyOk S ∧ WdOk zs ∧ i ≤ j ∧ j ≤ zs.length ∧ ∀ H', Same H H' → Q (sV (pieceN S zs i j)) H'
theorem ok_signs_of (T : Txt K mg) : FnOk P w K mg base CX0 4 T.a_signs_of T.d_signs_of ["style", "word", "first", "behind"] spSignsOf := by
  have G_width_at : FnOk P w K mg base CX0 3 T.a_width_at T.d_width_at ["style", "word", "at", "behind"] spWidthAt := ok_width_at T
  refine T.D_signs_of.F.ok sc_signs_of (fun vs H Q E h => ?_) (fun cdv A outer s H vs Q E hr h => ?_)
  · obtain ⟨v, S, zs, k, j, rfl, _⟩ := h
    rfl
  · obtain ⟨v, S, zs, i, j, rfl, hv, ok, wd, hij, hj, q⟩ := h
    refine ⟨_, (pss_cons (ps_set (i := 4) sc_signs_of.nd rfl (.inl rfl) (pe_lst pa_nil))
      (pss_cons (ps_for PassesOwn.never rfl (pi_range2 (by rfl) T.n_range (pa_cons (pv 2) (pa_cons (pv 3) pa_nil))) (pg_name (i := 5) sc_signs_of.nd rfl (.inl rfl)) (pss_one (ps_expr (pe_bm PySem.F.plainAttrs_list PySem.F.slot_list_append PySem.F.type_list_append mt_append (pv 4) (pa_cons (pe_op op_add_str (pe_ix ix_str (pv 1) (pv 5) (fun _ _ => rfl)) (pe_op op_mul_str (pe_glob (v := .str "_") (by rfl) T.m_FILLER ⟨_, rfl⟩) (pe_op op_sub (pe_call G_width_at (hr.mono (by decide)) (by rfl) T.D_width_at.G T.D_width_at.F.kp T.D_width_at.B .nil pass0 (pa_cons (pv 0) (pa_cons (pv 1) (pa_cons (pv 5) (pa_cons (pv 3) pa_nil))))) pe_int))) pa_nil)))))
      (pss_cons (ps_if (pt_cmpR op_lt (pv 3) (pe_callB call_len_str (by rfl) T.n_len PySem.boot_len (pa_cons (pv 1) pa_nil)) (nomark _)) (pss_one (ps_expr (pe_bm PySem.F.plainAttrs_list PySem.F.slot_list_append PySem.F.type_list_append mt_append (pv 4) (pa_cons (pe_glob (v := .str "-") (by rfl) T.m_HYPHEN ⟨_, rfl⟩) pa_nil)))) pss_nil)
      (pss_one (ps_ret (pe_join pe_str (pv 4))))))), ?_⟩
    have hb : (mkS zs).length ≤ sizeLine := by rw [mkS_len]; exact big_ok (by have := wd.len; omega)
    have hl := wd.len
    have e0 : (("" : Str)).length = 0 := by rw [empty_mk, mkS_len]; rfl
    have pl := partN_len ok zs i j (j - i)
    refine ⟨by show 0 ≤ sizeLine; decide, fun D nD => ?_⟩
    have k0 : Same H (upd H D (.lst [])) := same_upd (Same.refl H) nD
    refine ⟨_, rfl, _, rfl, i, j, rfl, ⟨by omega, by omega, by omega, by omega⟩, ?_⟩
    have en : ((j : Int) - (i : Int)).toNat = j - i := by omega
    rw [en]
    refine for_it walk_range (fun n σ' H' => ∃ x5 : Option V, σ' = [some v, some (sV zs), some (.int (i : Int)), some (.int (j : Int)), some (.ref D), x5] ∧ Same H H' ∧ H' D = some (.lst ((bitsN S zs i j n).map sV))) ⟨none, rfl, k0, upd_same⟩ (fun _ _ _ _ _ => trivial) ?_ ?_
    · rintro n x σ' H1 H2 hn ⟨x5, rfl, k1, e1⟩ ⟨rfl, hx⟩
      have hx : x = .int ((i + n : Nat) : Int) := hx
      subst hx
      have g0 := wd.at (show i + n < zs.length by omega)
      refine ⟨.ref D, rfl, .inl ⟨rfl, _, .inl (.inl e1)⟩, _, rfl, _, rfl, mkS zs, _, _, rfl, rfl, hb, atI_nat g0.1, ?_⟩
      refine ⟨_, rfl, _, rfl, _, rfl, _, rfl, v, S, zs, i + n, j, rfl, hv.mono (same_tup k1), ok, wd, by omega, hj, fun H3 k3 => ?_⟩
      have wb := wAt_bd ok zs j (i + n)
      obtain ⟨u, eu, hu⟩ : ∃ u : Nat, wAt S zs j (i + n) = u + 1 ∧ u ≤ 2 := ⟨wAt S zs j (i + n) - 1, by omega, by omega⟩
      have mf := mul_fill hu
      have e9 : ((u + 1 : Nat) : Int) - 1 = (u : Int) := by omega
      rw [eu]
      refine ⟨_, _, rfl, rfl, _, _, rfl, rfl, by rw [e9]; exact mf.1, ?_⟩
      rw [e9, mf.2]
      refine ⟨_, _, rfl, rfl, ?_, ?_⟩
      · show 1 + (mkS (List.replicate u 95)).length ≤ _
        rw [mkS_len, List.length_replicate]; exact big_ok (by omega)
      refine ⟨D, _, _, rfl, rfl, k3 _ _ e1, ?_, some (.int ((i + n : Nat) : Int)), rfl, same_mut (k1.trans k3) nD, ?_⟩
      · unfold bitsN
        rw [List.length_map, List.length_map, List.length_range']; exact lt_s (by omega)
      · rw [upd_same, bitsN_succ, List.map_append]
        have e7 : bitN S zs j (i + n) = [zs.getD (i + n) 0] ++ List.replicate u 95 := by
          unfold bitN
          rw [eu]; rfl
        rw [e7]
        have e8 : sV ([zs.getD (i + n) 0] ++ List.replicate u 95) = V.str (mkS [zs.getD (i + n) 0] ++ mkS (List.replicate u 95)) := by rw [mkS_app]; rfl
        show _ = some (HO.lst (_ ++ [sV ([zs.getD (i + n) 0] ++ List.replicate u 95)]))
        rw [e8]; rfl
    · rintro σ' H1 ⟨x5, rfl, k1, e1⟩
      refine ⟨_, rfl, _, rfl, mkS zs, rfl, hb, _, _, rfl, rfl, _, rfl, ite2 (fun c => ?_) (fun c => ?_)⟩
      · have c := of_decide_eq_true c
        rw [mkS_len] at c
        refine ⟨.ref D, rfl, .inl ⟨rfl, _, .inl (.inl e1)⟩, D, _, _, rfl, rfl, e1, ?_, ?_⟩
        · unfold bitsN
          rw [List.length_map, List.length_map, List.length_range']; exact lt_s (by omega)
        have e2 : (bitsN S zs i j (j - i)).map sV ++ [V.str ("-" : Str)] = ((bitsN S zs i j (j - i) ++ [[45]]).map mkS).map V.str := by
          rw [← map_sV, List.map_append]; rfl
        refine ⟨⟨_, rfl⟩, _, rfl, _, D, (bitsN S zs i j (j - i) ++ [[45]]).map mkS, rfl, rfl, .inl (SqL.of (by rw [upd_same, ← e2])), ?_, ?_⟩
        · rw [sum_len, e0, List.flatten_append, List.length_append, bits_flat]
          show _ + 1 + _ * 0 ≤ _
          omega
        · rw [join_mk, List.flatten_append, bits_flat]
          have q2 : ∀ H', Same H H' → Q (sV (partN S zs i j (j - i) ++ [[45]].flatten)) H' := by
            rw [pieceN_eq, show hyph zs j = [45] from if_pos (by omega)] at q
            exact q
          exact q2 _ (same_mut k1 nD)
      · refine ⟨⟨_, rfl⟩, _, rfl, _, D, (bitsN S zs i j (j - i)).map mkS, rfl, rfl, .inl (SqL.of (by rw [e1, map_sV])), ?_, ?_⟩
        · rw [sum_len, e0, bits_flat]; omega
        · rw [join_mk, bits_flat]
          have := q _ k1
          rw [pieceN_eq, show hyph zs j = [] from if_neg fun z => c (decide_eq_true (by rw [mkS_len]; omega)), List.append_nil] at this
          exact this
end
end Vf

set_option Elab.async false
set_option linter.all false
set_option maxRecDepth 100000
set_option maxHeartbeats 4000000
namespace Vf
open PySem PySem.Spec PyProof.Rows L2 TL
/-! ### lines: the mathematics -/
def nP (S : Sty) (z : List Nat) : Nat := (places S z).length
def wz (Z : List (List Nat)) (i : Nat) : List Nat := Z.getD i []
def rowL (S : Sty) (Z : List (List Nat)) (i : Nat) : List (Nat × Nat) := (List.range (nP S (wz Z i) + 1)).map fun k => (i, k)
def posL (S : Sty) (Z : List (List Nat)) : List (Nat × Nat) := (List.range Z.length).flatMap (rowL S Z) ++ [(Z.length, 0)]
def eA (S : Sty) (z : List Nat) (k : Nat) : Nat := (ends S z).getD k 0
theorem eA_at {S : Sty} {z : List Nat} {k : Nat} (h : k ≤ nP S z + 1) : (ends S z)[k]? = some (eA S z k) := by
  have hl : k < (ends S z).length := by rw [ends_len]; unfold nP at h; omega
  unfold eA
  rw [List.getD_eq_getElem?_getD, List.getElem?_eq_getElem hl]; rfl
/-- the width of the piece from the k-th parting to the m-th (0: to the end) -/
def pcW (S : Sty) (z : List Nat) (k m : Nat) : Nat := pieceW S z (eA S z k) (eA S z (if m = 0 then nP S z + 1 else m))
def kkA (k t : Nat) : Nat := if t = 0 then k else 0
/-- the width of the first t words from (i, k), each with a space behind it -/
def ahW (S : Sty) (Z : List (List Nat)) (i k : Nat) : Nat → Nat
  | 0 => 0
  | t + 1 => ahW S Z i k t + (pcW S (wz Z (i + t)) (kkA k t) 0 + 1)
theorem ahW_mono {S : Sty} {Z : List (List Nat)} {i k : Nat} {t : Nat} (d : Nat) : ahW S Z i k t + d ≤ ahW S Z i k (t + d) := by
  induction d with
  | zero => exact Nat.le_refl _
  | succ d ih =>
    show _ ≤ ahW S Z i k (t + d) + (pcW S (wz Z (i + (t + d))) (kkA k (t + d)) 0 + 1)
    omega
def natW (S : Sty) (Z : List (List Nat)) (i k : Nat) (y : Nat × Nat) : Nat := if y.2 = 0 then ahW S Z i k (y.1 - i) - 1 else ahW S Z i k (y.1 - i) + pcW S (wz Z y.1) (kkA k (y.1 - i)) y.2
def headL (i t : Nat) : List (Nat × Nat) := if t = 0 then [] else [(i + t, 0)]
def innerL (S : Sty) (Z : List (List Nat)) (i k t : Nat) : List (Nat × Nat) := (List.range (nP S (wz Z (i + t)) - kkA k t)).map fun s => (i + t, kkA k t + 1 + s)
def afterL (S : Sty) (Z : List (List Nat)) (i k : Nat) : List (Nat × Nat) := (List.range (Z.length - i)).flatMap (fun t => headL i t ++ innerL S Z i k t) ++ [(Z.length, 0)]
def fitO (M : Nat) (S : Sty) (Z : List (List Nat)) (i k : Nat) (y : Nat × Nat) : Option ((Nat × Nat) × Nat) := if natW S Z i k y ≤ M then some (y, natW S Z i k y) else none
def endsF (M : Nat) (S : Sty) (Z : List (List Nat)) (i k : Nat) : List ((Nat × Nat) × Nat) := (afterL S Z i k).filterMap (fitO M S Z i k)
theorem fm_append {α β : Type} (f : α → Option β) (a b : List α) : (a ++ b).filterMap f = a.filterMap f ++ b.filterMap f := List.filterMap_append
theorem fm_none {α β : Type} {f : α → Option β} {l : List α} (h : ∀ x ∈ l, f x = none) : l.filterMap f = [] := by
  refine List.eq_nil_iff_forall_not_mem.mpr fun x hx => ?_
  obtain ⟨y, hy, e⟩ := List.mem_filterMap.mp hx
  rw [h y hy] at e; cases e
theorem fm_one {α β : Type} {f : α → Option β} {x : α} : [x].filterMap f = (f x).toList := by
  cases h : f x with
  | none => rw [List.filterMap_cons_none h]; rfl
  | some y => rw [List.filterMap_cons_some h]; rfl
/-- once a whole word's end lies too far, nothing further fits -/
theorem fit_far {M : Nat} {S : Sty} {Z : List (List Nat)} {i k t : Nat} (h : M < ahW S Z i k t - 1) {y : Nat × Nat} (hy : i + t ≤ y.1) : fitO M S Z i k y = none := by
  unfold fitO
  rw [if_neg]
  have := ahW_mono (S := S) (Z := Z) (i := i) (k := k) (t := t) (y.1 - i - t)
  rw [show t + (y.1 - i - t) = y.1 - i by omega] at this
  unfold natW
  split <;> omega
theorem ends_cut {M : Nat} {S : Sty} {Z : List (List Nat)} {i k t : Nat} (hi : i ≤ Z.length) (ht : i + t ≤ Z.length) (h : M < ahW S Z i k t - 1) :
    endsF M S Z i k = ((List.range t).flatMap fun t => headL i t ++ innerL S Z i k t).filterMap (fitO M S Z i k) := by
  unfold endsF afterL
  obtain ⟨d, hd⟩ : ∃ d, Z.length - i = t + d := ⟨Z.length - i - t, by omega⟩
  rw [hd, List.range_add, List.flatMap_append, List.append_assoc, fm_append]
  have : (List.flatMap (fun t => headL i t ++ innerL S Z i k t) (List.map (fun x => t + x) (List.range d)) ++ [(Z.length, 0)]).filterMap (fitO M S Z i k) = [] := fm_none fun y hy => by
    refine fit_far h ?_
    rcases List.mem_append.mp hy with z | z
    · obtain ⟨u, hu, hy⟩ := List.mem_flatMap.mp z
      obtain ⟨v, _, rfl⟩ := List.mem_map.mp hu
      rcases List.mem_append.mp hy with w | w
      · unfold headL at w
        split at w
        · cases w
        · rw [List.mem_singleton.mp w]; show i + t ≤ i + (t + v); omega
      · unfold innerL at w
        obtain ⟨s, _, rfl⟩ := List.mem_map.mp w
        show i + t ≤ i + (t + v); omega
    · rw [List.mem_singleton.mp z]; exact ht
  rw [this, List.append_nil]
/-- a list or a tuple of these things -/
def SeqH (H : Hp) (a : Addr) (us : List V) : Prop := H a = some (.tup us) ∨ H a = some (.lst us)
theorem SeqH.same {H H' : Hp} {a : Addr} {us : List V} (h : SeqH H a us) (k : Same H H') : SeqH H' a us := h.imp (k _ _) (k _ _)
theorem SeqH.rix {K : PySem.W.Frag} {H : Hp} {a : Addr} {us : List V} (h : SeqH H a us) {i : Int} {v : V} {Q : VK} (e : atI us i = some v) (q : Q v H) : rIx K (.ref a) (.int i) H Q :=
  h.elim (fun h => .inr (.inl ⟨a, us, i, v, rfl, rfl, SqT.of h, e, q⟩)) (fun h => .inl ⟨a, us, i, v, rfl, rfl, SqL.of h, e, q⟩)
theorem SeqH.len {K : PySem.W.Frag} {H : Hp} {a : Addr} {us : List V} (h : SeqH H a us) : LenV K (.ref a) H us.length := h.elim (fun h => .inr ⟨us, SqT.of h, rfl⟩) (fun h => .inl ⟨us, SqL.of h, rfl⟩)
def ShV (S : Sty) (H : Hp) (x : V) (z : List Nat) : Prop := ShapeV H x S z
theorem ShV.kt {S : Sty} {H H' : Hp} {x : V} {z : List Nat} (h : ShV S H x z) (k : ∀ a xs, H a = some (.tup xs) → H' a = some (.tup xs)) : ShV S H' x z := ShapeV.mono h k
structure WdsOk (S : Sty) (Z : List (List Nat)) : Prop where
  st : StyOk S
  ne : ∀ z ∈ Z, 0 < z.length
  pl : ∀ z ∈ Z, nP S z ≤ 16
  ln : Z.length ≤ 40
theorem wz_at {Z : List (List Nat)} {i : Nat} (h : i < Z.length) : Z[i]? = some (wz Z i) := by
  unfold wz
  rw [List.getD_eq_getElem?_getD, List.getElem?_eq_getElem h]; rfl
theorem wz_mem {Z : List (List Nat)} {i : Nat} (h : i < Z.length) : wz Z i ∈ Z := List.mem_of_getElem? (wz_at h)
theorem natV_nV (n : Nat) : natV n = nV n := rfl
end Vf

set_option Elab.async false
set_option linter.all false
set_option maxRecDepth 100000
set_option maxHeartbeats 4000000
namespace Vf
open PySem PySem.Spec PyProof.Rows L2 TL
/-! ### `<` of data -/
def rLtD (K : PySem.W.Frag) : R2 := fun x y H Q => ∃ d e, Dp K H x d ∧ Dp K H y e ∧ PySem.W.alike d e = true ∧ d ≠ .none ∧ min d.depth e.depth ≤ 64 ∧ Q (.bl (PySem.W.dataLt d e)) H
theorem op_ltD {X : Cx} (hu : X.A.units + 65 < cLine) : OpR X (compareOp .Lt) (rLtD X.K) := by
  intro pins s σ H x y v u Q I rx ry h
  obtain ⟨d, e, hd, he, al, nn, dp, q⟩ := h
  obtain ⟨as, r1⟩ := Dp.reads I d x v hd rx
  obtain ⟨bs, r2⟩ := Dp.reads I e y u he ry
  exact PySem.W.lt_data r1 r2 al nn (by omega) ⟨.bl _, H, I, rfl, q⟩
/-! ### a number and a row of pairs -/
def dPr (p : Nat × Nat) : PyData := .tuple [.int (p.1 : Int), .int (p.2 : Int)]
def dRow (ps : List (Nat × Nat)) : PyData := .tuple (ps.map dPr)
def dWy (y : Nat) (ps : List (Nat × Nat)) : PyData := .tuple [.int (y : Int), dRow ps]
theorem al_pr (p q : Nat × Nat) : PySem.W.alike (dPr p) (dPr q) = true := by
  simp only [dPr, PySem.W.alike, PySem.W.alikeAll, Bool.and_self]
theorem al_prs : ∀ ps qs : List (Nat × Nat), PySem.W.alikeAll (ps.map dPr) (qs.map dPr) = true
  | [], _ => by simp only [List.map_nil, PySem.W.alikeAll]
  | _ :: _, [] => by simp only [List.map_nil, List.map_cons, PySem.W.alikeAll]
  | p :: ps, q :: qs => by
    simp only [List.map_cons, PySem.W.alikeAll]
    rw [al_pr, al_prs ps qs]; rfl
theorem al_row (ps qs : List (Nat × Nat)) : PySem.W.alike (dRow ps) (dRow qs) = true := by
  simp only [dRow, PySem.W.alike]
  exact al_prs ps qs
theorem al_wy (y z : Nat) (ps qs : List (Nat × Nat)) : PySem.W.alike (dWy y ps) (dWy z qs) = true := by
  simp only [dWy, PySem.W.alike, PySem.W.alikeAll, Bool.true_and, Bool.and_true]
  exact al_row ps qs
theorem dep_prs : ∀ ps : List (Nat × Nat), PyData.depthAll (ps.map dPr) ≤ 1
  | [] => Nat.zero_le _
  | p :: ps => by
    have := dep_prs ps
    simp only [List.map_cons, PyData.depthAll, dPr, PyData.depth]
    omega
theorem dep_wy (y : Nat) (ps : List (Nat × Nat)) : (dWy y ps).depth ≤ 64 := by
  have := dep_prs ps
  simp only [dWy, dRow, PyData.depth, PyData.depthAll]
  omega
theorem lt_wy_less {y z : Nat} {ps qs : List (Nat × Nat)} (h : y < z) : PySem.W.dataLt (dWy y ps) (dWy z qs) = true := by
  unfold dWy
  rw [PySem.W.dataLt_pair (by simp only [PySem.W.alike]) (al_row ps qs), if_neg (by simp only [PyData.eqv, beq_iff_eq]; omega), PySem.W.dataLt_int]
  exact decide_eq_true (by omega)
theorem lt_wy_more {y z : Nat} {ps qs : List (Nat × Nat)} (h : z < y) : PySem.W.dataLt (dWy y ps) (dWy z qs) = false := by
  unfold dWy
  rw [PySem.W.dataLt_pair (by simp only [PySem.W.alike]) (al_row ps qs), if_neg (by simp only [PyData.eqv, beq_iff_eq]; omega), PySem.W.dataLt_int]
  exact decide_eq_false (by omega)
theorem eqv_pr_self (p : Nat × Nat) : PyData.eqv (dPr p) (dPr p) = true := by
  simp only [dPr, PyData.eqv, PyData.eqvAll, beq_self_eq_true, Bool.and_self]
/-- the same number, the same first pair, then a greater one -/
theorem lt_wy_later {y : Nat} {p q q' : Nat × Nat} {ps qs : List (Nat × Nat)} (h : q'.1 < q.1 ∨ (q'.1 = q.1 ∧ q'.2 < q.2)) : PySem.W.dataLt (dWy y (p :: q :: ps)) (dWy y (p :: q' :: qs)) = false := by
  unfold dWy
  rw [PySem.W.dataLt_pair (by simp only [PySem.W.alike]) (al_row _ _), if_pos (by simp only [PyData.eqv, beq_self_eq_true])]
  have hr : PySem.W.dataLt (dRow (p :: q :: ps)) (dRow (p :: q' :: qs)) = false := by
    unfold dRow
    rw [PySem.W.dataLt_tuple, List.map_cons, List.map_cons, List.map_cons, List.map_cons, PySem.W.dataLt_cons (al_pr p p), if_pos (eqv_pr_self p), PySem.W.dataLt_cons (al_pr q q')]
    have hne : ¬ PyData.eqv (dPr q) (dPr q') = true := by
      simp only [dPr, PyData.eqv, PyData.eqvAll, Bool.and_true, Bool.and_eq_true, beq_iff_eq]
      omega
    rw [if_neg hne]
    unfold dPr
    rw [PySem.W.dataLt_ii]
    exact decide_eq_false (by omega)
  rw [hr]
  split <;> rfl
theorem dp_prs {K : PySem.W.Frag} {H : Hp} : ∀ {us : List V} {rs : List (Nat × Nat)}, us.length = rs.length → (∀ (i : Nat) r, rs[i]? = some r → ∃ x, us[i]? = some x ∧ FgV H x r) → DpAll K H us (rs.map dPr)
  | [], [], _, _ => .nil
  | [], _ :: _, h, _ => by cases h
  | _ :: _, [], h, _ => by cases h
  | u :: us, r :: rs, h, k => by
    obtain ⟨x, e, b, hx, eb⟩ := k 0 r rfl
    have e : u = x := Option.some.inj e
    subst e
    subst hx
    exact .cons (.tup (SqT.of eb) (.cons (.int _) (.cons (.int _) .nil))) (dp_prs (Nat.succ.inj h) fun i r e => k (i + 1) r e)
theorem dp_wy {K : PySem.W.Frag} {H : Hp} {p q : Addr} {y : Nat} {ws : List V} {rs : List (Nat × Nat)} (e1 : H p = some (.tup [nV y, .ref q])) (e2 : H q = some (.tup ws)) (lv : LV (FgV H) ws rs) : Dp K H (.ref p) (dWy y rs) :=
  .tup (SqT.of e1) (.cons (.int _) (.cons (.tup (SqT.of e2) (dp_prs lv.1 lv.2)) .nil))
theorem LV.rev {α : Type} {R : V → α → Prop} {us : List V} {rs : List α} (h : LV R us rs) : LV R us.reverse rs.reverse := by
  have l := h.1
  refine ⟨by rw [List.length_reverse, List.length_reverse, l], fun i r e => ?_⟩
  have hi : i < rs.length := by
    have := (List.getElem?_eq_some_iff.mp e).1
    rwa [List.length_reverse] at this
  rw [List.getElem?_reverse hi] at e
  obtain ⟨x, ex, hx⟩ := h.2 _ r e
  exact ⟨x, by rw [List.getElem?_reverse (by omega), l]; exact ex, hx⟩
variable {P : Program} {w : World} {K : PySem.W.Frag} {mg : Str → Option Value} {base : Heap}
theorem ixN_nat {n j : Nat} (h : j < n) : ixN n (j : Int) = some j := by
  unfold ixN
  rw [if_pos (by omega), if_pos (by omega)]; simp
theorem catA_any {K : PySem.W.Frag} {H : Hp} {a b : Addr} {xs ys : List V} {Q : VK} (ea : H a = some (.tup xs)) (eb : H b = some (.tup ys)) (hz : xs.length + ys.length ≤ sizeLine) (q : ∀ c H', Same H H' → H' c = some (.tup (xs ++ ys)) → Q (.ref c) H') : rCatA K (.ref a) (.ref b) H Q :=
  ⟨a, b, xs, ys, rfl, rfl, SqT.of ea, SqT.of eb, hz, fun z => q b H (Same.refl H) (by rw [z]; exact eb), fun _ z => q a H (Same.refl H) (by rw [z, List.append_nil]; exact ea), fun _ _ p np => q p _ (same_upd (Same.refl H) np) upd_same⟩
end Vf

set_option Elab.async false
set_option linter.all false
set_option maxRecDepth 100000
set_option maxHeartbeats 4000000
namespace Vf
open PySem PySem.Spec PyProof.Rows L2 TL
theorem eqv_nat {H : Hp} (i : Int) : Eqv 1 H (.int i) (.int i) := .inl (.inr (.inl ⟨i, rfl, rfl⟩))
theorem ends_asc (S : Sty) (zs : List Nat) (h0 : 0 < zs.length) : (ends S zs).Pairwise (· < ·) := by
  unfold ends
  rw [List.pairwise_cons]
  refine ⟨fun y hy => ?_, ?_⟩
  · rcases List.mem_append.mp hy with z | z
    · obtain ⟨r, hr, rfl⟩ := List.mem_map.mp z
      have := places_bd hr; omega
    · rw [List.mem_singleton.mp z]; exact h0
  · rw [List.pairwise_append]
    refine ⟨?_, List.pairwise_singleton _ _, fun a ha b hb => ?_⟩
    · rw [List.pairwise_map]; exact places_asc S zs
    · obtain ⟨r, hr, rfl⟩ := List.mem_map.mp ha
      rw [List.mem_singleton.mp hb]
      have := places_bd hr; omega
section
variable {P : Program} {w : World} {K : PySem.W.Frag} {mg : Str → Option Value} {base : Heap}
def spPiecesRight : Sp := fun vs H Q _ => ∃ (v u : V) (S : Sty) (zs : List Nat), vs = [v, sV zs, u] ∧ StyV H v S ∧ StyOk S ∧ WdOk zs ∧ 0 < zs.length ∧ ShapeV H u S zs ∧ ∀ H', Same H H' → Q (.bl true) H'
end
end Vf

set_option Elab.async false
set_option linter.all false
set_option maxRecDepth 100000
set_option maxHeartbeats 4000000
namespace Vf
open PySem PySem.Spec PyProof.Rows L2 TL
/-! ### joint shapes -/
def sgR : Hp → V → List Nat → Prop := fun _ v zs => v = sV zs
theorem sgR.mn : Mn sgR := ⟨fun h _ => h⟩
def StyR : Hp → V → Sty → Prop := fun H v S => StyV H v S
theorem StyR.mn : Mn StyR := ⟨fun h k => StyV.mono h k⟩
/-- a secret with its endings -/
def SeR (H : Hp) (v : V) (eds : List (List Nat)) : Prop := ∃ a x y z w, v = .ref a ∧ H a = some (.tup [x, y, z, w]) ∧ TupR sgR H w eds
theorem SeR.mn : Mn SeR := ⟨fun ⟨a, x, y, z, w, e, h, t⟩ k => ⟨a, x, y, z, w, e, k _ _ h, (TupR.mn sgR.mn).to t k⟩⟩
def ShR (S : Sty) : Hp → V → List Nat → Prop := fun H u zs => ShapeV H u S zs
theorem ShR.mn {S : Sty} : Mn (ShR S) := ⟨fun h k => ShapeV.mono h k⟩
def JrR (ws : List (List Nat)) : Hp → V → Sty → Prop := fun H u S => TupR (ShR S) H u ws
theorem JrR.mn {ws : List (List Nat)} : Mn (JrR ws) := ⟨fun h k => (TupR.mn ShR.mn).to h k⟩
def JtR (H : Hp) (v : V) (Ss : List Sty) (ws : List (List Nat)) : Prop := TupR (JrR ws) H v Ss
theorem JtR.to {H H' : Hp} {v : V} {Ss : List Sty} {ws : List (List Nat)} (h : JtR H v Ss ws) (k : TK H H') : JtR H' v Ss ws := (TupR.mn JrR.mn).to h k
section
variable {P : Program} {w : World} {K : PySem.W.Frag} {mg : Str → Option Value} {base : Heap}
def spJoint : Sp := fun vs H Q _ => ∃ (stv sev : V) (Ss : List Sty) (eds : List (List Nat)) (stem : List Nat), vs = [stv, sev, sV stem] ∧ TupR StyR H stv Ss ∧ (∀ S ∈ Ss, StyOk S) ∧ SeR H sev eds ∧ (∀ e ∈ eds, WdOk (stem ++ e)) ∧ Ss.length ≤ 10 ∧ eds.length ≤ 10 ∧
  ∀ H' u, Same H H' → JtR H' u Ss (eds.map (stem ++ ·)) → Q u H'
end
end Vf

set_option Elab.async false
set_option linter.all false
set_option maxRecDepth 100000
set_option maxHeartbeats 4000000
namespace Vf
open PySem PySem.Spec PyProof.Rows L2 TL
/-! ### sorted of a list of tuples of two signs -/
def encP (b : Addr × Nat × Nat) : PyData := .tuple [.str ⟨#[b.2.1]⟩, .str ⟨#[b.2.2]⟩]
def leP (a b : Nat × Nat) : Prop := a.1 < b.1 ∨ (a.1 = b.1 ∧ a.2 ≤ b.2)
instance (a b : Nat × Nat) : Decidable (leP a b) := by unfold leP; infer_instance
theorem sg_lt (c d : Nat) : PySem.W.dataLt (.str ⟨#[c]⟩) (.str ⟨#[d]⟩) = decide (c < d) := by
  rw [PySem.W.dataLt_str]
  show decide ([c] < [d]) = decide (c < d)
  by_cases h : c < d
  · rw [decide_eq_true h, decide_eq_true (show [c] < [d] from List.Lex.rel h)]
  · rw [decide_eq_false h]
    refine decide_eq_false fun z => ?_
    cases z with
    | rel z => exact h z
    | cons z => cases z
theorem sg_eqv (c d : Nat) : PyData.eqv (.str ⟨#[c]⟩) (.str ⟨#[d]⟩) = decide (c = d) := by
  by_cases h : c = d
  · subst h; simp [PyData.eqv]
  · rw [decide_eq_false h]
    simp only [PyData.eqv, beq_eq_false_iff_ne]
    intro z
    injection z with z
    injection z with z
    injection z with z
    exact h z
theorem le_encP (p q : Addr × Nat × Nat) : (!PySem.W.dataLt (encP q) (encP p)) = decide (leP p.2 q.2) := by
  unfold encP leP
  rw [PySem.W.dataLt_pair (by simp [PySem.W.alike]) (by simp [PySem.W.alike]), sg_eqv, sg_eqv, sg_lt, sg_lt]
  by_cases h1 : q.2.1 = p.2.1
  · rw [decide_eq_true h1, if_pos rfl]
    by_cases h2 : q.2.2 = p.2.2
    · rw [decide_eq_true h2, if_pos rfl]
      exact (decide_eq_true (by omega)).symm
    · rw [decide_eq_false h2, if_neg Bool.false_ne_true]
      by_cases h3 : q.2.2 < p.2.2
      · rw [decide_eq_true h3]; exact (decide_eq_false (by omega)).symm
      · rw [decide_eq_false h3]; exact (decide_eq_true (by omega)).symm
  · rw [decide_eq_false h1, if_neg Bool.false_ne_true]
    by_cases h3 : q.2.1 < p.2.1
    · rw [decide_eq_true h3]; exact (decide_eq_false (by omega)).symm
    · rw [decide_eq_false h3]; exact (decide_eq_true (by omega)).symm
theorem er_of {X : Cx} {pins : List (Addr × Obj)} {σ : L2.St} {H : Hp} {s : Shared} (I : L2.Inv X pins σ H s) : ∀ {vs : List Value} {bs : List (Addr × Nat × Nat)}, PySem.W.EachIs (fun v b => v = Value.ref b.1) vs bs → (∀ y ∈ bs, SqT X.K H y.1 [V.str ⟨#[y.2.1]⟩, V.str ⟨#[y.2.2]⟩]) → PySem.W.EachIs (fun v b => ∃ as, Reads s.heap v (encP b) as) vs bs
  | _, _, .nil, _ => .nil
  | _, b :: _, .cons h t, ht => .cons (Dp.reads I _ _ _ (.tup (ht b List.mem_cons_self) (.cons (.str _) (.cons (.str _) .nil))) h) (er_of I t fun y hy => ht y (List.mem_cons_of_mem _ hy))
def rSortedP (K : PySem.W.Frag) : List V → Hp → VK → Prop := fun vs H Q => ∃ (a : Addr) (bs : List (Addr × Nat × Nat)), vs = [V.ref a] ∧ SqL K H a (bs.map fun y => V.ref y.1) ∧ (∀ y ∈ bs, SqT K H y.1 [V.str ⟨#[y.2.1]⟩, V.str ⟨#[y.2.2]⟩]) ∧ bs.length ≤ 1000 ∧
  ∀ (ys : List (Addr × Nat × Nat)) (p : Addr), ys.Perm bs → ys.Pairwise (fun a b => leP a.2 b.2) → H p = none → Q (.ref p) (upd H p (.lst (ys.map fun y => V.ref y.1)))
theorem vals_refs : ∀ {bs : List (Addr × Nat × Nat)} {its : List Value}, Vals (bs.map fun y => V.ref y.1) its → PySem.W.EachIs (fun v b => v = Value.ref b.1) its bs
  | [], _, .nil => .nil
  | b :: bs, _, .cons r t => .cons r (vals_refs t)
theorem refs_vals : ∀ {bs : List (Addr × Nat × Nat)} {its : List Value}, PySem.W.EachIs (fun v b => v = Value.ref b.1) its bs → Vals (bs.map fun y => V.ref y.1) its
  | [], _, .nil => .nil
  | b :: bs, _, .cons r t => .cons r (refs_vals t)
theorem call_sortedP {X : Cx} (hu : X.A.units + 64 < cLine) : CallR X (.builtin "sorted") (rSortedP X.K) := by
  intro pins s σ H vs us' Q I r h
  obtain ⟨a, bs, rfl, hs, ht, hl0, q⟩ := h
  obtain ⟨its, rv, hl, _⟩ := I.list hs
  rw [Vals.ref1 r]
  have e := vals_refs rv
  have er := er_of I e ht
  refine PySem.W.sorted_data (enc := encP) hl.isList e er (fun d hd d' hd' => ?_) (.inl fun d hd => ?_) (Nat.le_trans hl0 (by decide)) (fun b _ => ?_) fun out lo eo => ?_
  · obtain ⟨x, _, rfl⟩ := List.mem_map.mp hd
    obtain ⟨y, _, rfl⟩ := List.mem_map.mp hd'
    simp [encP, PySem.W.alike, PySem.W.alikeAll]
  · obtain ⟨x, _, rfl⟩ := List.mem_map.mp hd
    exact ⟨_, _, rfl⟩
  · have : (encP b).depth = 1 := rfl
    omega
  · obtain ⟨ep, he'⟩ := PyProof.Rows.sortedAll_at s.heap its out.toArray
    have e2 : PySem.W.dataLe false encP = fun p q => decide (leP p.2 q.2) := by
      funext p q
      rw [PySem.W.dataLe_eq]
      exact le_encP p q
    rw [e2] at eo
    generalize hy : bs.mergeSort (fun p q => decide (leP p.2 q.2)) = ys at eo
    have hp : ys.Perm bs := by rw [← hy]; exact List.mergeSort_perm _ _
    have hw : ys.Pairwise (fun a b => leP a.2 b.2) := by
      rw [← hy]
      refine (List.pairwise_mergeSort (le := fun p q : Addr × Nat × Nat => decide (leP p.2 q.2)) (fun x y z hxy hyz => ?_) (fun x y => ?_) bs).imp fun h => of_decide_eq_true h
      · have hxy := of_decide_eq_true hxy
        have hyz := of_decide_eq_true hyz
        refine decide_eq_true ?_
        unfold leP at hxy hyz ⊢
        omega
      · rw [Bool.or_eq_true]
        by_cases c : leP x.2 y.2
        · exact .inl (decide_eq_true c)
        · refine .inr (decide_eq_true ?_)
          unfold leP at c ⊢
          omega
    have hlen : (ys.map fun y => V.ref y.1).length ≤ sizeLine := by rw [List.length_map, hp.length_eq]; exact Nat.le_trans hl0 (by decide)
    exact ⟨.ref _, upd H (s.heap.objs.size + 1) (.lst (ys.map fun y => V.ref y.1)), I.laid (t' := s.toks) (fun _ _ => PyProof.Rows.sortedAll_old) (Nat.le_succ _) ⟨hlen, out, ep, refs_vals eo, he'⟩, rfl, q ys _ hp hw (I.hok.fresh (Nat.le_succ _))⟩
end Vf

set_option Elab.async false
set_option linter.all false
set_option maxRecDepth 100000
set_option maxHeartbeats 4000000
namespace Vf
open PySem PySem.Spec PyProof.Rows L2 TL
/-! ### drawn styles, by rows -/
def WrR : Hp → V → Nat × Nat → Prop := fun H v r => ∃ a, v = .ref a ∧ H a = some (.tup [sgn r.1, natV r.2])
theorem WrR.mn : Mn WrR := ⟨fun ⟨a, e, h⟩ k => ⟨a, e, k _ _ h⟩⟩
def CrR : Hp → V → (Nat × Nat) × Nat → Prop := fun H v r => ∃ a, v = .ref a ∧ H a = some (.tup [sgn r.1.1, sgn r.1.2, natV r.2])
theorem CrR.mn : Mn CrR := ⟨fun ⟨a, e, h⟩ k => ⟨a, e, k _ _ h⟩⟩
theorem rowsW_of {H : Hp} {a : Addr} {us : List V} {W : List (Nat × Nat)} (e : H a = some (.tup us)) (lv : LV (WrR H) us W) : RowsV H (.ref a) (rowsW W) := by
  refine ⟨a, us, rfl, e, by rw [len_rW]; exact lv.1, fun i r er => ?_⟩
  obtain ⟨x, ex, rfl⟩ := at_map er
  obtain ⟨y, ey, b, rfl, eb⟩ := lv.2 i x ex
  exact ⟨b, ey, eb⟩
theorem rows2_of {H : Hp} {a : Addr} {us : List V} {C : List ((Nat × Nat) × Nat)} (e : H a = some (.tup us)) (lv : LV (CrR H) us C) : RowsV H (.ref a) (rows2 C) := by
  refine ⟨a, us, rfl, e, by rw [len_r2]; exact lv.1, fun i r er => ?_⟩
  obtain ⟨x, ex, rfl⟩ := at_map er
  obtain ⟨y, ey, b, rfl, eb⟩ := lv.2 i x ex
  exact ⟨b, ey, eb⟩
theorem asc_W {W : List (Nat × Nat)} (h : (W.map Prod.fst).Pairwise (· < ·)) : Asc (rowsW W) := by
  unfold Asc rowsW
  rw [List.pairwise_map]
  rw [List.pairwise_map] at h
  refine h.imp fun {a b} z => ?_
  show (if a.1 = b.1 then _ else decide (a.1 < b.1)) = true
  rw [if_neg (by omega)]
  exact decide_eq_true z
/-- ascending pairs -/
def ltP (a b : Nat × Nat) : Prop := a.1 < b.1 ∨ (a.1 = b.1 ∧ a.2 < b.2)
theorem asc_2 {C : List ((Nat × Nat) × Nat)} (h : (C.map Prod.fst).Pairwise ltP) : Asc (rows2 C) := by
  unfold Asc rows2
  rw [List.pairwise_map]
  rw [List.pairwise_map] at h
  refine h.imp fun {a b} z => ?_
  show (if a.1.1 = b.1.1 then (if a.1.2 = b.1.2 then lexN [] [] else decide (a.1.2 < b.1.2)) else decide (a.1.1 < b.1.1)) = true
  rcases z with z | ⟨z, y⟩
  · rw [if_neg (by omega)]; exact decide_eq_true z
  · rw [if_pos z, if_neg (by omega)]; exact decide_eq_true y
theorem look_of_mem {W : List (Nat × Nat)} (h : (W.map Prod.fst).Nodup) {r : Nat × Nat} (hr : r ∈ W) : look W r.1 = some r.2 := by
  obtain ⟨i, hi, e⟩ := mem_at hr
  refine look_at e fun j q hj hq z => ?_
  have hn := List.pairwise_iff_getElem.mp h j i (by rw [List.length_map]; omega) (by rw [List.length_map]; omega) hj
  have e1 : (W.map Prod.fst)[j]'(by rw [List.length_map]; omega) = q.1 := by
    rw [List.getElem_map]
    rw [List.getElem?_eq_getElem (by omega)] at hq
    rw [Option.some.inj hq]
  have e2 : (W.map Prod.fst)[i]'(by rw [List.length_map]; omega) = r.1 := by
    rw [List.getElem_map]
    rw [List.getElem?_eq_getElem (by omega)] at e
    rw [Option.some.inj e]
  rw [e1, e2] at hn
  exact hn z
theorem nd_lt {l : List Nat} (h : l.Pairwise (· < ·)) : l.Nodup := h.imp fun {a b} z => by omega
theorem leP_lt {bs : List (Addr × Nat × Nat)} (h : bs.Pairwise fun a b => leP a.2 b.2) (n : (bs.map Prod.snd).Nodup) : (bs.map Prod.snd).Pairwise ltP := by
  rw [List.pairwise_map]
  unfold List.Nodup at n
  rw [List.pairwise_map] at n
  refine (h.and n).imp fun {a b} ⟨z, y⟩ => ?_
  rcases z with z | ⟨z, w⟩
  · exact .inl z
  · refine .inr ⟨z, Nat.lt_of_le_of_ne w fun e => y (Prod.ext z e)⟩
/-! pairs of signs as data -/
def dP (p : Nat × Nat) : PyData := .tuple [.str ⟨#[p.1]⟩, .str ⟨#[p.2]⟩]
theorem dP_dp {K : PySem.W.Frag} {H : Hp} {a : Addr} {p : Nat × Nat} (h : H a = some (.tup [sgn p.1, sgn p.2])) : Dp K H (.ref a) (dP p) := .tup (SqT.of h) (.cons (.str _) (.cons (.str _) .nil))
theorem dPs_dp {K : PySem.W.Frag} {H : Hp} : ∀ {bs : List (Addr × Nat × Nat)}, (∀ y ∈ bs, H y.1 = some (.tup [sgn y.2.1, sgn y.2.2])) → DpAll K H (bs.map fun y => V.ref y.1) (bs.map fun y => dP y.2)
  | [], _ => .nil
  | b :: bs, h => .cons (dP_dp (h b List.mem_cons_self)) (dPs_dp fun y hy => h y (List.mem_cons_of_mem _ hy))
theorem sg_beq (c d : Nat) : ((⟨#[c]⟩ : Str) == ⟨#[d]⟩) = decide (c = d) := by
  have h := sg_eqv c d
  simp only [PyData.eqv] at h
  exact h
theorem dP_eqv (p q : Nat × Nat) : PyData.eqv (dP p) (dP q) = decide (p = q) := by
  unfold dP
  simp only [PyData.eqv, PyData.eqvAll]
  rw [sg_beq, sg_beq]
  by_cases h : p = q
  · subst h; simp
  · rw [decide_eq_false h]
    by_cases h1 : p.1 = q.1
    · have : ¬ p.2 = q.2 := fun z => h (Prod.ext h1 z)
      simp [this]
    · simp [h1]
theorem dP_any (ps : List (Nat × Nat)) (p : Nat × Nat) : ((ps.map dP).any fun z => PyData.eqv z (dP p)) = decide (p ∈ ps) := by
  rw [List.any_map]
  by_cases h : p ∈ ps
  · rw [decide_eq_true h]
    exact List.any_eq_true.mpr ⟨p, h, by show PyData.eqv (dP p) (dP p) = true; rw [dP_eqv]; exact decide_eq_true rfl⟩
  · rw [decide_eq_false h]
    refine List.any_eq_false.mpr fun q hq => ?_
    show ¬ PyData.eqv (dP q) (dP p) = true
    rw [dP_eqv]
    exact fun z => h (of_decide_eq_true z ▸ hq)
def P2 (p : Nat × Nat) : Prop := p.1 < 1114112 ∧ p.2 < 1114112
theorem dP_lay {p : Nat × Nat} (h : P2 p) : (dP p).canLay0 = true := by
  have h1 := h.1
  have h2 := h.2
  unfold dP
  simp [PyData.canLay0, PyData.canLayAll0, PyData.strOk]
  exact ⟨h1, h2⟩
theorem dPs_lay : ∀ {ps : List (Nat × Nat)}, (∀ p ∈ ps, P2 p) → PyData.canLayAll0 (ps.map dP) = true
  | [], _ => rfl
  | p :: ps, h => by
    simp only [List.map_cons, PyData.canLayAll0, Bool.and_eq_true]
    exact ⟨dP_lay (h p List.mem_cons_self), dPs_lay fun q hq => h q (List.mem_cons_of_mem _ hq)⟩
theorem dP_depth (p : Nat × Nat) : (dP p).depth = 1 := by
  unfold dP; simp only [PyData.depth, PyData.depthAll]; rfl
theorem dPs_depth : ∀ ps : List (Nat × Nat), PyData.depthAll (ps.map dP) ≤ 1
  | [] => Nat.zero_le _
  | p :: ps => by
    have := dPs_depth ps
    have e := dP_depth p
    simp only [List.map_cons, PyData.depthAll]
    omega
theorem dP_shaped {p : Nat × Nat} (h : P2 p) : SeqAt.shaped (dP p) = true := Bool.and_eq_true_iff.mpr ⟨dP_lay h, decide_eq_true (by rw [dP_depth]; decide)⟩
theorem dPs_shaped {ps : List (Nat × Nat)} (h : ∀ p ∈ ps, P2 p) : SeqAt.shaped (.list (ps.map dP)) = true :=
  Bool.and_eq_true_iff.mpr ⟨by simp only [PyData.canLay0]; exact dPs_lay h, decide_eq_true (by have := dPs_depth ps; simp only [PyData.depth]; omega)⟩
theorem tup_new {H : Hp} {p : Addr} {xs : List V} (n : H p = none) : TK H (upd H p (.tup xs)) ∧ Same H (upd H p (.tup xs)) ∧ upd H p (.tup xs) p = some (.tup xs) := ⟨TK.new (TK.refl _) n, same_upd (Same.refl H) n, upd_same⟩
theorem Kp.of_same {d : Addr} {H H' : Hp} (k : Same H H') : Kp d H H' := fun b o _ e => k _ _ e
def SgB (H : Hp) (bs : List (Addr × Nat × Nat)) : Prop := ∀ y ∈ bs, H y.1 = some (.tup [sgn y.2.1, sgn y.2.2])
theorem SgB.to {H H' : Hp} {bs : List (Addr × Nat × Nat)} (h : SgB H bs) (k : TK H H') : SgB H' bs := fun y hy => k _ _ (h y hy)
theorem nd_snoc2 {α : Type} {l : List α} {x : α} (h : l.Nodup) (n : x ∉ l) : (l ++ [x]).Nodup := by
  rw [List.nodup_append]
  exact ⟨h, by simp, fun a ha b hb e => n (by rw [List.mem_singleton.mp hb] at e; exact e ▸ ha)⟩
def tSt : List Nat := [42, 49, 50, 57, 63, 97, 109, 115]
theorem tSt_e : ("*129?ams" : Str) = mkS tSt := by decide +kernel
section
variable {P : Program} {w : World} {K : PySem.W.Frag} {mg : Str → Option Value} {base : Heap}
def StyX (S : Sty) : Prop := (S.C.map fun r => r.1.1).Sublist (S.W.map Prod.fst) ∧ (S.W.map Prod.fst).Nodup ∧ S.W.length ≤ 8 ∧ (∀ r ∈ S.W, r.1 < 1000 ∧ r.1 ≠ 98 ∧ r.1 ≠ 110) ∧ ∀ r ∈ S.C, r.1.1 < 1000 ∧ r.1.2 < 1000
def spStyle : Sp := fun vs H Q _ => ∃ (d l : Addr) (m dp cl : Int), vs = [.ref d, .int m, .int dp, .int cl] ∧ DI d l H ∧ ∀ H' v S, Kp d H H' → DI d l H' → StyV H' v S → StyOk S → StyX S → S.m = m → Q v H'
theorem ok_style (T : Txt K mg) : FnOk P w K mg base CX0 3 T.a_law_style T.d_law_style ["_law_d", "_law_measure", "_law_depth", "_law_columns"] spStyle := by
  have G_law_draw : FnOk P w K mg base CX0 1 T.a_law_draw T.d_law_draw ["_law_d", "_law_many"] spDraw := ok_draw T
  have G_law_pick : FnOk P w K mg base CX0 2 T.a_law_pick T.d_law_pick ["_law_d", "_law_row"] (spPick K) := ok_pick T
  refine T.D_law_style.F.ok sc_law_style (fun vs H Q E h => ?_) (fun cdv A outer s H vs Q E hr h => ?_)
  · obtain ⟨d, l, m, dp, cl, rfl, _⟩ := h
    rfl
  · obtain ⟨d, l, m, dp, cl, rfl, hD, q⟩ := h
    refine ⟨_, (pss_cons (ps_set (i := 4) sc_law_style.nd rfl (.inl rfl) (pe_lst pa_nil))
      (pss_cons (ps_for PassesOwn.never rfl (pi_str pe_str) (pg_name (i := 5) sc_law_style.nd rfl (.inl rfl)) (pss_cons (ps_set (i := 6) sc_law_style.nd rfl (.inl rfl) (pe_call G_law_draw (hr.mono (by decide)) (by rfl) T.D_law_draw.G T.D_law_draw.F.kp T.D_law_draw.B .nil pass0 (pa_cons (pv 0) (pa_cons pe_int pa_nil))))
      (pss_one (ps_if (PW.pt (pw_or (pt_cmpR op_eq (pv 6) pe_int (nomark _)) (pw_or1 (pt_cmpR op_eq (pv 6) pe_int (nomark _))))) (pss_one (ps_expr (pe_bm PySem.F.plainAttrs_list PySem.F.slot_list_append PySem.F.type_list_append mt_append (pv 4) (pa_cons (pe_tup (pa_cons (pv 5) (pa_cons (pe_op op_add (pv 6) pe_int) pa_nil))) pa_nil)))) pss_nil))))
      (pss_cons (ps_set (i := 7) sc_law_style.nd rfl (.inl rfl) (pe_lst pa_nil))
      (pss_cons (ps_for PassesOwn.never rfl (pi_list (pv 4)) (pg_tup (by rfl) (pgs_cons (pg_name (i := 5) sc_law_style.nd rfl (.inl rfl)) (pgs_cons (pg_name (i := 8) sc_law_style.nd rfl (.inl rfl)) pgs_nil))) (pss_one (ps_if (PW.pt (pw_and (pt_cmpR op_in_sign (pv 5) pe_str (by rfl)) (pw_and1 (pt_cmpR op_eq (pe_call G_law_draw (hr.mono (by decide)) (by rfl) T.D_law_draw.G T.D_law_draw.F.kp T.D_law_draw.B .nil pass0 (pa_cons (pv 0) (pa_cons pe_int pa_nil))) pe_int (nomark _))))) (pss_one (ps_expr (pe_bm PySem.F.plainAttrs_list PySem.F.slot_list_append PySem.F.type_list_append mt_append (pv 7) (pa_cons (pe_tup (pa_cons (pv 5) (pa_cons (pe_call G_law_pick (hr.mono (by decide)) (by rfl) T.D_law_pick.G T.D_law_pick.F.kp T.D_law_pick.B .nil pass0 (pa_cons (pv 0) (pa_cons pe_str pa_nil))) (pa_cons (pe_op op_add pe_int (pe_call G_law_draw (hr.mono (by decide)) (by rfl) T.D_law_draw.G T.D_law_draw.F.kp T.D_law_draw.B .nil pass0 (pa_cons (pv 0) (pa_cons (pe_op op_sub (pv 8) pe_int) pa_nil)))) pa_nil)))) pa_nil)))) pss_nil)))
      (pss_cons (ps_set (i := 9) sc_law_style.nd rfl (.inl rfl) (pe_lst pa_nil))
      (pss_cons (ps_for PassesOwn.never rfl (pi_range1 (by rfl) T.n_range (pa_cons (pe_call G_law_draw (hr.mono (by decide)) (by rfl) T.D_law_draw.G T.D_law_draw.F.kp T.D_law_draw.B .nil pass0 (pa_cons (pv 0) (pa_cons pe_int pa_nil))) pa_nil)) (pg_name (i := 10) sc_law_style.nd rfl (.inl rfl)) (pss_cons (ps_set (i := 11) sc_law_style.nd rfl (.inl rfl) (pe_tup (pa_cons (pe_call G_law_pick (hr.mono (by decide)) (by rfl) T.D_law_pick.G T.D_law_pick.F.kp T.D_law_pick.B .nil pass0 (pa_cons (pv 0) (pa_cons pe_str pa_nil))) (pa_cons (pe_call G_law_pick (hr.mono (by decide)) (by rfl) T.D_law_pick.G T.D_law_pick.F.kp T.D_law_pick.B .nil pass0 (pa_cons (pv 0) (pa_cons pe_str pa_nil))) pa_nil))))
      (pss_one (ps_if (pt_cmpR (op_notInD (hu65 hr)) (pv 11) (pv 9) (by rfl)) (pss_one (ps_expr (pe_bm PySem.F.plainAttrs_list PySem.F.slot_list_append PySem.F.type_list_append mt_append (pv 9) (pa_cons (pv 11) pa_nil)))) pss_nil))))
      (pss_cons (ps_setLc (i := 12) (own := [("_law_one", 14), ("_law_two", 15)]) (g := (gTup K 2 (gCons (gName 14) (gCons (gName 15) gNil)))) (tt := tYes) rfl sc_law_style.nd rfl rfl (sw_true rfl rfl rfl (by decide +kernel)) (pi_list (pe_callB (call_sortedP (Room.units hr)) (by rfl) T.n_sorted (by decide +kernel) (pa_cons (pv 9) pa_nil))) (blkOk_by (own := [("_law_one", 14), ("_law_two", 15)]) (N := ["_law_d", "_law_measure", "_law_depth", "_law_columns", "_law_widths", "_law_sign", "_law_kind", "_law_cuts", "_law_wide", "_law_pairs", "_law_k", "_law_pair", "_law_breaks", "_law_prices", "_law_one", "_law_two"]) (sc := (defScope s_law_style)) (by decide +kernel)) (fun _ _ _ _ _ => (pg_tup (by rfl) (pgs_cons (pg_name (i := 14) sc_law_style.nd rfl (.inl rfl)) (pgs_cons (pg_name (i := 15) sc_law_style.nd rfl (.inl rfl)) pgs_nil)))) (fun _ _ _ _ _ => pts_nil) (fun _ _ _ _ _ => (pe_tup (pa_cons (pv 14) (pa_cons (pv 15) (pa_cons (pe_call G_law_pick (hr.mono (by decide)) (by rfl) T.D_law_pick.G T.D_law_pick.F.kp T.D_law_pick.B .nil pass0 (pa_cons (pv 0) (pa_cons (pe_lst (pa_cons pe_int (pa_cons pe_int (pa_cons pe_int (pa_cons pe_int (pa_cons pe_int (pa_cons pe_int pa_nil))))))) pa_nil))) pa_nil))))))
      (pss_cons (ps_setLc (i := 13) (own := [("_law_k", 10)]) (g := gName 10) (tt := tYes) rfl sc_law_style.nd rfl rfl (sw_true rfl rfl rfl (by decide +kernel)) (pi_range1 (by rfl) T.n_range (pa_cons pe_int pa_nil)) (blkOk_by (own := [("_law_k", 10)]) (N := ["_law_d", "_law_measure", "_law_depth", "_law_columns", "_law_widths", "_law_sign", "_law_kind", "_law_cuts", "_law_wide", "_law_pairs", "_law_k", "_law_pair", "_law_breaks", "_law_prices", "_law_one", "_law_two"]) (sc := (defScope s_law_style)) (by decide +kernel)) (fun _ _ _ _ _ => (pg_name (i := 10) sc_law_style.nd rfl (.inl rfl))) (fun _ _ _ _ _ => pts_nil) (fun _ _ _ _ _ => (pe_call G_law_pick (hr.mono (by decide)) (by rfl) T.D_law_pick.G T.D_law_pick.F.kp T.D_law_pick.B .nil pass0 (pa_cons (pv 0) (pa_cons (pe_lst (pa_cons pe_int (pa_cons pe_int (pa_cons pe_int (pa_cons pe_int (pa_cons pe_int (pa_cons pe_int pa_nil))))))) pa_nil)))))
      (pss_one (ps_ret (pe_tup (pa_cons (pv 1) (pa_cons (pv 2) (pa_cons (pv 3) (pa_cons (pe_callTy call_tuple_of (by rfl) T.n_tuple (by decide +kernel) (pa_cons (pv 4) pa_nil)) (pa_cons (pe_callTy call_tuple_of (by rfl) T.n_tuple (by decide +kernel) (pa_cons (pv 7) pa_nil)) (pa_cons (pe_callTy call_tuple_of (by rfl) T.n_tuple (by decide +kernel) (pa_cons (pv 12) pa_nil)) (pa_cons (pe_callTy call_tuple_of (by rfl) T.n_tuple (by decide +kernel) (pa_cons (pv 13) pa_nil)) pa_nil)))))))))))))))))), ?_⟩
    refine ⟨by show 0 ≤ sizeLine; decide, fun A0 nA => ?_⟩
    have nAd := hD.nd nA
    have k0 := (Kp.refl d H).new (o := .lst []) nA
    have D0 := hD.new (o := .lst []) nA
    have eA0 : upd H A0 (.lst []) A0 = some (.lst []) := upd_same
    generalize upd H A0 (.lst []) = H0 at k0 D0 eA0
    rw [tSt_e]
    refine ⟨_, rfl, for_it walk_str (fun n σ' H' => ∃ (W : List (Nat × Nat)) (us : List V) (x5 x6 : Option V), σ' = [some (.ref d), some (.int m), some (.int dp), some (.int cl), some (.ref A0), x5, x6, none, none, none, none, none, none, none, none, none] ∧ Kp d H H' ∧ DI d l H' ∧ H' A0 = some (.lst us) ∧ LV (WrR H') us W ∧ (W.map Prod.fst).Sublist (tSt.take n) ∧ ∀ r ∈ W, r.2 = 2 ∨ r.2 = 3)
      ⟨[], [], none, none, rfl, k0, D0, eA0, LV.nil, List.Sublist.refl _, fun _ h => nomatch h⟩ (fun _ _ _ _ _ => trivial) ?_ ?_⟩
    · rintro n x σ' H1 H2 hn ⟨W, us, x5, x6, rfl, k1, D1, eA1, lv, hsub, hw⟩ ⟨rfl, c, hc, rfl⟩
      have hc : tSt[n]? = some c := by rw [← Array.getElem?_toList] at hc; exact hc
      have et := take_one hc
      have lW : W.length ≤ 8 := by
        have := hsub.length_le
        rw [List.length_map, List.length_take] at this
        exact Nat.le_trans this (Nat.min_le_right _ _)
      have lu := lv.1
      refine ⟨_, rfl, d, l, 5, rfl, D1, by decide, fun H3 r k3 D3 a1 a2 => ?_⟩
      obtain ⟨g, rfl, hg⟩ := draw_nt (by decide) a1 a2
      have eA3 := k3 _ _ nAd.1 eA1
      have k13 := k1.trans k3
      have lv3 : LV (WrR H3) us W := lv.mono fun _ _ z => WrR.mn.to z (kpTup D1 k3)
      by_cases c1 : g = 1
      · subst c1
        refine ⟨_, rfl, rfl, true, bTr rfl, ?_⟩
        refine ⟨.ref A0, rfl, .inl ⟨rfl, _, .inl (.inl eA3)⟩, ?_⟩
        refine ⟨_, rfl, _, rfl, _, _, rfl, rfl, by show 2 ≤ sizeLine; decide, fun p np => ?_⟩
        have eAp : upd H3 p (.tup [sgn c, natV 2]) A0 = some (.lst us) := by rw [upd_ne (ne_of_none eA3 np)]; exact eA3
        have kp := k13.new (o := .tup [sgn c, natV 2]) np
        have Dp := D3.new (o := .tup [sgn c, natV 2]) np
        have lvp : LV (WrR (upd H3 p (.tup [sgn c, natV 2]))) (us ++ [.ref p]) (W ++ [(c, 2)]) := (lv3.mono fun _ _ z => WrR.mn.to z (TK.new (TK.refl _) np)).snoc ⟨p, rfl, upd_same⟩
        have lvq : LV (WrR (upd (upd H3 p (.tup [sgn c, natV 2])) A0 (.lst (us ++ [.ref p])))) (us ++ [.ref p]) (W ++ [(c, 2)]) := lvp.mono fun _ _ z => WrR.mn.to z (TK.mut (TK.refl _) eAp)
        refine ⟨A0, us, _, rfl, rfl, eAp, szN (by omega), ?_⟩
        refine ⟨W ++ [(c, 2)], us ++ [V.ref p], _, _, rfl, kp.mut nA, Dp.at nAd.1 nAd.2, upd_same, lvq, by rw [et, List.map_append]; exact hsub.append (List.Sublist.refl _), fun r hr => ?_⟩
        rcases List.mem_append.mp hr with h | h
        · exact hw r h
        · rw [List.mem_singleton.mp h]; exact .inl rfl
      · by_cases c2 : g = 2
        · subst c2
          refine ⟨_, rfl, rfl, false, bFa (fun z => c1 (nV_inj z)), _, rfl, rfl, true, bTr rfl, ?_⟩
          refine ⟨.ref A0, rfl, .inl ⟨rfl, _, .inl (.inl eA3)⟩, ?_⟩
          refine ⟨_, rfl, _, rfl, _, _, rfl, rfl, by show 2 ≤ sizeLine; decide, fun p np => ?_⟩
          have eAp : upd H3 p (.tup [sgn c, natV 3]) A0 = some (.lst us) := by rw [upd_ne (ne_of_none eA3 np)]; exact eA3
          have kp := k13.new (o := .tup [sgn c, natV 3]) np
          have Dp := D3.new (o := .tup [sgn c, natV 3]) np
          have lvp : LV (WrR (upd H3 p (.tup [sgn c, natV 3]))) (us ++ [.ref p]) (W ++ [(c, 3)]) := (lv3.mono fun _ _ z => WrR.mn.to z (TK.new (TK.refl _) np)).snoc ⟨p, rfl, upd_same⟩
          have lvq : LV (WrR (upd (upd H3 p (.tup [sgn c, natV 3])) A0 (.lst (us ++ [.ref p])))) (us ++ [.ref p]) (W ++ [(c, 3)]) := lvp.mono fun _ _ z => WrR.mn.to z (TK.mut (TK.refl _) eAp)
          refine ⟨A0, us, _, rfl, rfl, eAp, szN (by omega), ?_⟩
          refine ⟨W ++ [(c, 3)], us ++ [V.ref p], _, _, rfl, kp.mut nA, Dp.at nAd.1 nAd.2, upd_same, lvq, by rw [et, List.map_append]; exact hsub.append (List.Sublist.refl _), fun r hr => ?_⟩
          rcases List.mem_append.mp hr with h | h
          · exact hw r h
          · rw [List.mem_singleton.mp h]; exact .inr rfl
        · refine ⟨_, rfl, rfl, false, bFa (fun z => c1 (nV_inj z)), _, rfl, rfl, false, bFa (fun z => c2 (nV_inj z)), ?_⟩
          exact ⟨W, us, _, _, rfl, k13, D3, eA3, lv3, by rw [et]; exact hsub.trans (List.sublist_append_left _ _), hw⟩
    · rintro σ' H1 ⟨W, us, x5, x6, rfl, k1, D1, eA1, lv, hsub, hw⟩
      have hsub : (W.map Prod.fst).Sublist tSt := hsub
      have lW : W.length ≤ 8 := by
        have := hsub.length_le
        rw [List.length_map] at this
        exact this
      have aW : (W.map Prod.fst).Pairwise (· < ·) := List.Pairwise.sublist hsub (by decide)
      have uW : ∀ r ∈ W, r.1 < 1000 := fun r hr => by
        have : r.1 ∈ tSt := hsub.subset (List.mem_map.mpr ⟨r, hr, rfl⟩)
        exact (by decide : ∀ c ∈ tSt, c < 1000) _ this
      have lu := lv.1
      refine ⟨by show 0 ≤ sizeLine; decide, fun C0 nC => ?_⟩
      have nCd := D1.nd nC
      have nAC : A0 ≠ C0 := ne_of_none eA1 nC
      have k2 := k1.new (o := .lst []) nC
      have D2 := D1.new (o := .lst []) nC
      have nCH := none_kp k1 nCd.1 nC
      have eA2 : upd H1 C0 (.lst []) A0 = some (.lst us) := by rw [upd_ne nAC]; exact eA1
      have eC2 : upd H1 C0 (.lst []) C0 = some (.lst []) := upd_same
      have lv2 : LV (WrR (upd H1 C0 (.lst []))) us W := lv.mono fun _ _ z => WrR.mn.to z (TK.new (TK.refl _) nC)
      generalize upd H1 C0 (.lst []) = H2 at k2 D2 eA2 eC2 lv2
      refine ⟨_, rfl, A0, rfl, ⟨_, SqL.of eA2⟩, ?_⟩
      refine for_it (walk_list (K := K) (a := A0) (xs := us)) (fun i σ' H' => ∃ (C : List ((Nat × Nat) × Nat)) (vs : List V) (x5 x8 : Option V), σ' = [some (.ref d), some (.int m), some (.int dp), some (.int cl), some (.ref A0), x5, x6, some (.ref C0), x8, none, none, none, none, none, none, none] ∧ Kp d H H' ∧ DI d l H' ∧ H' A0 = some (.lst us) ∧ H' C0 = some (.lst vs) ∧ LV (CrR H') vs C ∧ LV (WrR H') us W ∧ (C.map fun r => r.1.1).Sublist ((W.take i).map Prod.fst) ∧ ∀ r ∈ C, r.2 < wOf W r.1.1 ∧ r.1.2 < 1000)
        ⟨[], [], _, _, rfl, k2, D2, eA2, eC2, LV.nil, lv2, List.Sublist.refl _, fun _ h => nomatch h⟩ ?_ ?_ ?_
      · rintro i σ' H' _ ⟨_, _, _, _, _, _, _, e, _⟩
        exact SqL.of e
      · rintro i x σ' H3 H4 hi ⟨C, vs, x5, x8, rfl, k3, D3, eA3, eC3, lc, lv3, hsc, hc⟩ ⟨rfl, hx⟩
        obtain ⟨⟨c, wd⟩, er, b, rfl, eb⟩ := lv3.at hx
        have hm := List.mem_of_getElem? er
        have hw2 := hw _ hm
        have hw2 : wd = 2 ∨ wd = 3 := hw2
        have hlk := look_of_mem (nd_lt aW) hm
        have hlk : look W c = some wd := hlk
        have et : (W.take (i + 1)).map Prod.fst = (W.take i).map Prod.fst ++ [c] := by rw [take_one er, List.map_append]; rfl
        have lC : C.length ≤ 8 := by
          have := hsc.length_le
          rw [List.length_map, List.length_map, List.length_take] at this
          omega
        have lcl := lc.1
        refine ⟨b, _, rfl, SqT.of eb, rfl, _, _, rfl, _, _, rfl, rfl, ?_⟩
        have hold : ∀ (H5 : Hp), TK H4 H5 → LV (CrR H5) vs C := fun H5 k => lc.mono fun _ _ z => CrR.mn.to z k
        have stay : ∀ (H5 : Hp) (x5 x8 : Option V), Kp d H4 H5 → DI d l H5 → ∃ (C : List ((Nat × Nat) × Nat)) (vs : List V) (y5 y8 : Option V), [some (.ref d), some (.int m), some (.int dp), some (.int cl), some (.ref A0), x5, x6, some (.ref C0), x8, none, none, none, none, none, none, none] = [some (.ref d), some (.int m), some (.int dp), some (.int cl), some (.ref A0), y5, x6, some (.ref C0), y8, none, none, none, none, none, none, none] ∧ Kp d H H5 ∧ DI d l H5 ∧ H5 A0 = some (.lst us) ∧ H5 C0 = some (.lst vs) ∧ LV (CrR H5) vs C ∧ LV (WrR H5) us W ∧ (C.map fun r => r.1.1).Sublist ((W.take (i + 1)).map Prod.fst) ∧ ∀ r ∈ C, r.2 < wOf W r.1.1 ∧ r.1.2 < 1000 := fun H5 x5 x8 k D =>
          ⟨C, vs, x5, x8, rfl, k3.trans k, D, k _ _ nAd.1 eA3, k _ _ nCd.1 eC3, hold H5 (kpTup D3 k), lv3.mono fun _ _ z => WrR.mn.to z (kpTup D3 k), by rw [et]; exact hsc.trans (List.sublist_append_left _ _), hc⟩
        by_cases ha : c ∈ ("ams" : Str).cps.toList
        · refine ⟨_, rfl, c, _, rfl, rfl, true, bTr ha, ?_⟩
          refine ⟨_, rfl, d, l, 2, rfl, D3, by decide, fun H5 r k5 D5 a1 a2 => ?_⟩
          obtain ⟨g, rfl, hg⟩ := draw_nt (by decide) a1 a2
          by_cases c1 : g = 1
          · subst c1
            refine ⟨rfl, true, bTr rfl, ?_⟩
            have eC5 := k5 _ _ nCd.1 eC3
            refine ⟨.ref C0, rfl, .inl ⟨rfl, _, .inl (.inl eC5)⟩, ?_⟩
            refine ⟨_, rfl, _, rfl, d, l, .str ("abn" : Str), _, rfl, D5, .inr ⟨("abn" : Str).cps.toList, rfl, rfl⟩, by decide +kernel, by decide +kernel, fun H6 v k6 D6 hv => ?_⟩
            obtain ⟨c2, hc2, rfl⟩ := List.mem_map.mp hv
            have hc2 : c2 < 1000 := of_decide_eq_true (List.all_eq_true.mp (show (("abn" : Str).cps.toList.all fun c => decide (c < 1000)) = true by decide +kernel) c2 hc2)
            refine ⟨_, rfl, _, rfl, _, _, rfl, rfl, d, l, (wd : Int) - 1, rfl, D6, by show (wd : Int) - 1 ≤ _; omega, fun H7 r7 k7 D7 b1 b2 => ?_⟩
            obtain ⟨j, rfl, hj⟩ := draw_nt (m := (wd : Int) - 1) (by omega) b1 b2
            refine ⟨_, _, rfl, rfl, by show 3 ≤ sizeLine; decide, fun t nt => ?_⟩
            have e1 : V.int (1 + (j : Int)) = natV (1 + j) := congrArg V.int (by omega)
            have k47 := k5.trans (k6.trans k7)
            have eC7 := k47 _ _ nCd.1 eC3
            have eA7 := k47 _ _ nAd.1 eA3
            generalize hX : upd H7 t (.tup [sgn (c, wd).fst, sV [c2], (fun i j => V.int (i + j)) 1 (j : Int)]) = X
            have hX : X = upd H7 t (.tup [sgn c, sgn c2, natV (1 + j)]) := by rw [← hX, ← e1]; rfl
            have eCX : X C0 = some (.lst vs) := by rw [hX, upd_ne (ne_of_none eC7 nt)]; exact eC7
            have eAX : X A0 = some (.lst us) := by rw [hX, upd_ne (ne_of_none eA7 nt)]; exact eA7
            have kX : Kp d H X := by rw [hX]; exact (k3.trans k47).new nt
            have DX : DI d l X := by rw [hX]; exact D7.new nt
            have tX : TK H4 X := by rw [hX]; exact TK.new (kpTup D3 k47) nt
            have rX : CrR X (.ref t) ((c, c2), 1 + j) := by rw [hX]; exact ⟨t, rfl, upd_same⟩
            have lX : LV (CrR X) (vs ++ [.ref t]) (C ++ [((c, c2), 1 + j)]) := (hold X tX).snoc rX
            have tm : TK X (upd X C0 (.lst (vs ++ [V.ref t]))) := TK.mut (TK.refl _) eCX
            refine ⟨C0, vs, _, rfl, rfl, eCX, szN (by omega), ?_⟩
            refine ⟨C ++ [((c, c2), 1 + j)], vs ++ [V.ref t], _, _, rfl, kX.mut nCH, DX.at nCd.1 nCd.2, by rw [upd_ne nAC]; exact eAX, upd_same, lX.mono fun _ _ z => CrR.mn.to z tm, lv3.mono fun _ _ z => WrR.mn.to z (tX.trans tm), by rw [et, List.map_append]; exact hsc.append (List.Sublist.refl _), fun r hr => ?_⟩
            rcases List.mem_append.mp hr with h | h
            · exact hc r h
            · rw [List.mem_singleton.mp h]
              refine ⟨?_, hc2⟩
              show 1 + j < (look W c).getD 1
              rw [hlk]
              show 1 + j < wd
              omega
          · refine ⟨rfl, false, bFa (fun z => c1 (nV_inj z)), ?_⟩
            exact stay _ _ _ k5 D5
        · refine ⟨_, rfl, c, _, rfl, rfl, false, bFa ha, ?_⟩
          exact stay _ _ _ (Kp.refl d _) D3
      · rintro σ' H3 ⟨C, cvs, x5, x8, rfl, k3, D3, eA3, eC3, lc, lv3, hsc, hc⟩
        rw [show us.length = W.length from lu, List.take_length] at hsc
        have lC : C.length ≤ 8 := by
          have := hsc.length_le
          rw [List.length_map, List.length_map] at this
          omega
        have lcl := lc.1
        have aC : (C.map Prod.fst).Pairwise ltP := by
          have h := List.Pairwise.sublist hsc aW
          rw [List.pairwise_map] at h ⊢
          exact h.imp fun {a b} z => .inl z
        have uC : ∀ r ∈ C, r.1.1 < 1000 ∧ r.1.2 < 1000 := fun r hr => by
          refine ⟨?_, (hc r hr).2⟩
          have : r.1.1 ∈ W.map Prod.fst := hsc.subset (List.mem_map.mpr ⟨r, hr, rfl⟩)
          obtain ⟨y, hy, e⟩ := List.mem_map.mp this
          rw [← e]; exact uW y hy
        refine ⟨by show 0 ≤ sizeLine; decide, fun P0 nP => ?_⟩
        have nPd := D3.nd nP
        have k4 := (Kp.refl d H3).new (o := .lst []) nP
        have D4 := D3.new (o := .lst []) nP
        have eP4 : upd H3 P0 (.lst []) P0 = some (.lst (([] : List (Addr × Nat × Nat)).map fun y => V.ref y.1)) := upd_same
        generalize upd H3 P0 (.lst []) = H4 at k4 D4 eP4
        refine ⟨_, rfl, d, l, 10, rfl, D4, by decide, fun H5 r k5 D5 a1 a2 => ?_⟩
        obtain ⟨g, rfl, hg⟩ := draw_nt (by decide) a1 a2
        refine ⟨(g : Int), rfl, by omega, by omega, ?_⟩
        rw [toNat_k]
        have hg : g < 10 := by omega
        refine for_it walk_range (fun i σ' H' => ∃ (bs : List (Addr × Nat × Nat)) (x10 x11 : Option V), σ' = [some (.ref d), some (.int m), some (.int dp), some (.int cl), some (.ref A0), x5, x6, some (.ref C0), x8, some (.ref P0), x10, x11, none, none, none, none] ∧ Kp d H3 H' ∧ DI d l H' ∧ H' P0 = some (.lst (bs.map fun y => V.ref y.1)) ∧ SgB H' bs ∧ bs.length ≤ i ∧ (bs.map Prod.snd).Nodup ∧ ∀ y ∈ bs, y.2.1 < 1000 ∧ y.2.2 < 1000)
          ⟨[], _, _, rfl, k4.trans k5, D5, k5 _ _ nPd.1 eP4, (fun _ h => nomatch h), Nat.le_refl _, List.nodup_nil, fun _ h => nomatch h⟩ (fun _ _ _ _ _ => trivial) ?_ ?_
        · rintro i x σ' H6 H7 hi ⟨bs, x10, x11, rfl, k6, D6, eP, hS, lb, nd, hb⟩ ⟨rfl, hx⟩
          have hall : ∀ c ∈ ("abimns" : Str).cps.toList, c < 1000 := fun c hc => of_decide_eq_true (List.all_eq_true.mp (show (("abimns" : Str).cps.toList.all fun c => decide (c < 1000)) = true by decide +kernel) c hc)
          refine ⟨_, rfl, d, l, .str ("abimns" : Str), _, rfl, D6, .inr ⟨("abimns" : Str).cps.toList, rfl, rfl⟩, by decide +kernel, by decide +kernel, fun H8 v k8 D8 hv => ?_⟩
          obtain ⟨c1, hc1, rfl⟩ := List.mem_map.mp hv
          refine ⟨_, rfl, d, l, .str ("abimns" : Str), _, rfl, D8, .inr ⟨("abimns" : Str).cps.toList, rfl, rfl⟩, by decide +kernel, by decide +kernel, fun H9 v k9 D9 hv => ?_⟩
          obtain ⟨c2, hc2, rfl⟩ := List.mem_map.mp hv
          have hc1 := hall c1 hc1
          have hc2 := hall c2 hc2
          refine ⟨by show 2 ≤ sizeLine; decide, fun t nt => ?_⟩
          have k69 := k8.trans k9
          have eP9 := k69 _ _ nPd.1 eP
          have tPt : P0 ≠ t := ne_of_none eP9 nt
          have ePt : upd H9 t (.tup [sV [c1], sV [c2]]) P0 = some (.lst (bs.map fun y => V.ref y.1)) := by rw [upd_ne tPt]; exact eP9
          have kt := (k6.trans k69).new (o := .tup [sV [c1], sV [c2]]) nt
          have Dt := D9.new (o := .tup [sV [c1], sV [c2]]) nt
          have ett : upd H9 t (.tup [sV [c1], sV [c2]]) t = some (.tup [sgn c1, sgn c2]) := upd_same
          have hSt : SgB (upd H9 t (.tup [sV [c1], sV [c2]])) bs := hS.to (TK.new (kpTup D6 k69) nt)
          generalize upd H9 t (.tup [sV [c1], sV [c2]]) = H10 at ePt kt Dt ett hSt
          have hP2 : ∀ q ∈ bs.map Prod.snd, P2 q := fun q hq => by
            obtain ⟨y, hy, rfl⟩ := List.mem_map.mp hq
            have := hb y hy
            exact ⟨by omega, by omega⟩
          have ebd : bs.map (fun y => dP y.2) = (bs.map Prod.snd).map dP := by rw [List.map_map]; rfl
          refine ⟨_, rfl, _, rfl, dP (c1, c2), (bs.map Prod.snd).map dP, dP_dp ett, .lst (SqL.of ePt) (by rw [← ebd]; exact dPs_dp hSt), dP_shaped ⟨by show c1 < _; omega, by show c2 < _; omega⟩, dPs_shaped hP2, ?_⟩
          rw [dP_any]
          by_cases hin : (c1, c2) ∈ bs.map Prod.snd
          · refine ⟨false, by rw [decide_eq_true hin]; rfl, ?_⟩
            exact ⟨bs, _, _, rfl, kt, Dt, ePt, hSt, by omega, nd, hb⟩
          · refine ⟨true, by rw [decide_eq_false hin]; rfl, ?_⟩
            refine ⟨.ref P0, rfl, .inl ⟨rfl, _, .inl (.inl ePt)⟩, _, rfl, P0, _, _, rfl, rfl, ePt, szN (by rw [List.length_map]; omega), ?_⟩
            have tm : TK H10 (upd H10 P0 (.lst (bs.map (fun y => V.ref y.1) ++ [V.ref t]))) := TK.mut (TK.refl _) ePt
            refine ⟨bs ++ [(t, c1, c2)], _, _, rfl, kt.mut nP, Dt.at nPd.1 nPd.2, by rw [upd_same, List.map_append]; rfl, fun y hy => ?_, by rw [List.length_append]; exact Nat.succ_le_succ lb, by rw [List.map_append]; exact nd_snoc2 nd hin, fun y hy => ?_⟩
            · rcases List.mem_append.mp hy with h | h
              · exact tm _ _ (hSt y h)
              · rw [List.mem_singleton.mp h]; exact tm _ _ ett
            · rcases List.mem_append.mp hy with h | h
              · exact hb y h
              · rw [List.mem_singleton.mp h]; exact ⟨hc1, hc2⟩
        · rintro σ' H6 ⟨bs, x10, x11, rfl, k6, D6, eP, hS, lb, nd, hb⟩
          refine ⟨_, rfl, P0, bs, rfl, SqL.of eP, fun y hy => SqT.of (hS y hy), by omega, fun ys p hp hpw np => ?_⟩
          have k7 := k6.new (o := .lst (ys.map fun y => V.ref y.1)) np
          have D7 := D6.new (o := .lst (ys.map fun y => V.ref y.1)) np
          have npd := (D6.nd np).1
          have ep : upd H6 p (.lst (ys.map fun y => V.ref y.1)) p = some (.lst (ys.map fun y => V.ref y.1)) := upd_same
          have hSy : SgB (upd H6 p (.lst (ys.map fun y => V.ref y.1))) ys := fun y hy => TK.new (TK.refl _) np _ _ (hS y (hp.mem_iff.mp hy))
          have ndy : (ys.map Prod.snd).Nodup := ((hp.map Prod.snd).nodup_iff).mpr nd
          have hasc := leP_lt hpw ndy
          have lys := hp.length_eq
          have hby : ∀ y ∈ ys, y.2.1 < 1000 ∧ y.2.2 < 1000 := fun y hy => hb y (hp.mem_iff.mp hy)
          generalize upd H6 p (.lst (ys.map fun y => V.ref y.1)) = H7 at k7 D7 ep hSy
          refine ⟨p, rfl, ⟨_, SqL.of ep⟩, fun D8 nD8 => ?_⟩
          have nDd := D7.nd nD8
          refine lc_it (walk_list (K := K) (a := p) (xs := ys.map fun y => V.ref y.1)) (fun i H' => ∃ (B : List ((Nat × Nat) × Nat)) (vs : List V), H' D8 = some (.lst vs) ∧ LV (CrR H') vs B ∧ B.map Prod.fst = (ys.take i).map Prod.snd ∧ Kp d H7 H' ∧ DI d l H') ⟨[], [], upd_same, LV.nil, rfl, (Kp.refl d H7).new nD8, D7.new nD8⟩ ?_ ?_ ?_
          · rintro i H' _ ⟨_, _, _, _, _, k, _⟩
            exact SqL.of (k _ _ npd ep)
          · rintro i x H8 H9 hi ⟨B, vs, eD, lv, eB, k8, D8'⟩ ⟨rfl, hx⟩
            obtain ⟨y, ey, rfl⟩ := at_map hx
            have hys := hSy y (List.mem_of_getElem? ey)
            have hys := kpTup D7 k8 _ _ hys
            have lB : B.length ≤ i := by
              have := congrArg List.length eB
              rw [List.length_map, List.length_map, List.length_take] at this
              omega
            have lvl := lv.1
            rw [List.length_map] at hi
            refine ⟨y.1, _, rfl, SqT.of hys, rfl, _, _, rfl, _, _, rfl, rfl, rfl, ?_⟩
            refine ⟨_, rfl, _, rfl, _, rfl, by show 6 ≤ sizeLine; decide, fun M nM => ?_⟩
            refine ⟨d, l, .ref M, _, rfl, D8'.new nM, .inl ⟨M, rfl, (D8'.nd nM).1, SqL.of upd_same⟩, Nat.succ_pos _, by show 6 ≤ 1000; decide, fun H10 v k10 D10 hv => ?_⟩
            have k10 := ((Kp.refl d H9).new (o := .lst [V.int 0, V.int 1, V.int 3, V.int 8, V.int 20, V.int 999]) nM).trans k10
            obtain ⟨pr, rfl, _, _⟩ := isN_of (lo := 0) (hi := 999) (List.all_eq_true.mp (show List.all _ (isN 0 999) = true from rfl) v hv)
            refine ⟨by show 3 ≤ sizeLine; decide, fun t nt => ?_⟩
            have eD10 := k10 _ _ nDd.1 eD
            have eDt : upd H10 t (.tup [sgn y.2.1, sgn y.2.2, nV pr]) D8 = some (.lst vs) := by rw [upd_ne (ne_of_none eD10 nt)]; exact eD10
            have tm : TK (upd H10 t (.tup [sgn y.2.1, sgn y.2.2, nV pr])) (upd (upd H10 t (.tup [sgn y.2.1, sgn y.2.2, nV pr])) D8 (.lst (vs ++ [V.ref t]))) := TK.mut (TK.refl _) eDt
            have rt : CrR (upd H10 t (.tup [sgn y.2.1, sgn y.2.2, nV pr])) (.ref t) (y.2, pr) := ⟨t, rfl, upd_same⟩
            have lt : LV (CrR (upd H10 t (.tup [sgn y.2.1, sgn y.2.2, nV pr]))) (vs ++ [V.ref t]) (B ++ [(y.2, pr)]) := (lv.mono fun _ _ z => CrR.mn.to z (TK.new (kpTup D8' k10) nt)).snoc rt
            refine ⟨vs, eDt, szN (by omega), B ++ [(y.2, pr)], vs ++ [V.ref t], upd_same, lt.mono fun _ _ z => CrR.mn.to z tm, by rw [take_one ey, List.map_append, List.map_append, eB]; rfl, ((k8.trans k10).new nt).mut nD8, (D10.new nt).at nDd.1 nDd.2⟩
          · rintro H8 ⟨B, vs, eD, lv, eB, k8, D8'⟩
            rw [List.length_map, List.take_length] at eB
            have lB : B.length ≤ 10 := by
              have := congrArg List.length eB
              rw [List.length_map, List.length_map] at this
              omega
            refine ⟨5, rfl, by omega, by omega, fun D9 nD9 => ?_⟩
            have nD9d := D8'.nd nD9
            refine lc_it walk_range (fun i H' => ∃ ps : List V, H' D9 = some (.lst ps) ∧ ps.length = i ∧ Kp d H8 H' ∧ DI d l H') ⟨[], upd_same, rfl, (Kp.refl d H8).new nD9, D8'.new nD9⟩ (fun _ _ _ _ => trivial) ?_ ?_
            · rintro i x H9 H10 hi ⟨ps, eD9, lps, k9, D9'⟩ ⟨rfl, hx⟩
              refine ⟨rfl, ?_⟩
              refine ⟨_, rfl, by show 6 ≤ sizeLine; decide, fun M nM => ?_⟩
              refine ⟨d, l, .ref M, _, rfl, D9'.new nM, .inl ⟨M, rfl, (D9'.nd nM).1, SqL.of upd_same⟩, Nat.succ_pos _, by show 6 ≤ 1000; decide, fun H11 v k11 D11 hv => ?_⟩
              have k11 := ((Kp.refl d H10).new (o := .lst [V.int 0, V.int 1, V.int 2, V.int 5, V.int 30, V.int 999]) nM).trans k11
              have hi : i < 5 := hi
              exact ⟨ps, k11 _ _ nD9d.1 eD9, szN (by omega), ps ++ [v], upd_same, by rw [List.length_append, lps]; rfl, (k9.trans k11).mut nD9, D11.at nD9d.1 nD9d.2⟩
            · rintro H9 ⟨ps, eD9, lps, k9, D9'⟩
              have k39 := k7.trans (k8.trans k9)
              have eA9 := k39 _ _ nAd.1 eA3
              have eC9 := k39 _ _ nCd.1 eC3
              have eB9 := k9 _ _ nDd.1 eD
              have lv9 : LV (WrR H9) us W := lv3.mono fun _ _ z => WrR.mn.to z (kpTup D3 k39)
              have lc9 : LV (CrR H9) cvs C := lc.mono fun _ _ z => CrR.mn.to z (kpTup D3 k39)
              have lb9 : LV (CrR H9) vs B := lv.mono fun _ _ z => CrR.mn.to z (kpTup D8' k9)
              have kAll := k3.trans k39
              refine ⟨_, rfl, _, rfl, _, rfl, _, rfl, A0, _, rfl, .inl ⟨SqL.of eA9, fun p1 np1 => ?_⟩⟩
              have ⟨t1, s1, f1⟩ := tup_new (xs := us) np1
              generalize upd H9 p1 (.tup us) = X1 at t1 s1 f1
              refine ⟨_, rfl, C0, _, rfl, .inl ⟨SqL.of (s1 _ _ eC9), fun p2 np2 => ?_⟩⟩
              have ⟨t2, s2, f2⟩ := tup_new (xs := cvs) np2
              generalize upd X1 p2 (.tup cvs) = X2 at t2 s2 f2
              refine ⟨_, rfl, D8, _, rfl, .inl ⟨SqL.of (s2 _ _ (s1 _ _ eB9)), fun p3 np3 => ?_⟩⟩
              have ⟨t3, s3, f3⟩ := tup_new (xs := vs) np3
              generalize upd X2 p3 (.tup vs) = X3 at t3 s3 f3
              refine ⟨_, rfl, D9, _, rfl, .inl ⟨SqL.of (s3 _ _ (s2 _ _ (s1 _ _ eD9))), fun p4 np4 => ⟨by show 7 ≤ sizeLine; decide, fun ra nra => ?_⟩⟩⟩
              have ⟨t4, s4, f4⟩ := tup_new (xs := ps) np4
              generalize upd X3 p4 (.tup ps) = X4 at t4 s4 f4 nra
              have ⟨t5, s5, f5⟩ := tup_new (xs := [V.int m, .int dp, .int cl, .ref p1, .ref p2, .ref p3, .ref p4]) nra
              have sAll := s1.trans (s2.trans (s3.trans (s4.trans s5)))
              have tAll := TK.same sAll
              have t25 : TK X1 (upd X4 ra (.tup [V.int m, .int dp, .int cl, .ref p1, .ref p2, .ref p3, .ref p4])) := t2.trans (t3.trans (t4.trans t5))
              have t35 : TK X2 (upd X4 ra (.tup [V.int m, .int dp, .int cl, .ref p1, .ref p2, .ref p3, .ref p4])) := t3.trans (t4.trans t5)
              have t45 : TK X3 (upd X4 ra (.tup [V.int m, .int dp, .int cl, .ref p1, .ref p2, .ref p3, .ref p4])) := t4.trans t5
              have hW8 : W.length ≤ 8 := by
                have h8 := hsub.length_le
                rw [List.length_map] at h8
                exact h8
              refine q _ _ ⟨m, dp, cl, W, C, B⟩ (kAll.trans (Kp.of_same sAll)) (D9'.keep sAll) ⟨ra, _, _, _, _, rfl, f5, rowsW_of (t25 _ _ f1) (lv9.mono fun _ _ z => WrR.mn.to z tAll), rows2_of (t35 _ _ f2) (lc9.mono fun _ _ z => CrR.mn.to z tAll), rows2_of (t45 _ _ f3) (lb9.mono fun _ _ z => CrR.mn.to z tAll)⟩ ?_ ⟨hsc, nd_lt aW, hW8, fun r hr => ⟨uW r hr, (by decide : ∀ c ∈ tSt, c ≠ 98 ∧ c ≠ 110) _ (hsub.subset (List.mem_map.mpr ⟨r, hr, rfl⟩))⟩, uC⟩ rfl
              have hB : ∀ r ∈ B, r.1.1 < 1000 ∧ r.1.2 < 1000 := fun r hr => by
                have : r.1 ∈ ys.map Prod.snd := by rw [← eB]; exact List.mem_map.mpr ⟨r, hr, rfl⟩
                obtain ⟨y, hy, e⟩ := List.mem_map.mp this
                rw [← e]; exact hby y hy
              refine ⟨asc_W aW, asc_2 aC, asc_2 (by rw [eB]; exact hasc), by show W.length ≤ 100; omega, by show C.length ≤ 100; omega, by show B.length ≤ 100; omega, fun r hr => ?_, fun r hr c hc => ?_, fun r hr c hc => ?_, fun r hr c hc => ?_, fun r hr => (hc r hr).1⟩
              · rcases hw r hr with e | e <;> omega
              · obtain ⟨r, hr2, rfl⟩ := List.mem_map.mp hr
                have := uW r hr2
                have e : c = r.1 := List.mem_singleton.mp hc
                omega
              · obtain ⟨r, hr2, rfl⟩ := List.mem_map.mp hr
                have ⟨a, b⟩ := uC r hr2
                have hc : c ∈ [r.1.1, r.1.2] := hc
                simp only [List.mem_cons, List.not_mem_nil, or_false] at hc
                omega
              · obtain ⟨r, hr2, rfl⟩ := List.mem_map.mp hr
                have ⟨a, b⟩ := hB r hr2
                have hc : c ∈ [r.1.1, r.1.2] := hc
                simp only [List.mem_cons, List.not_mem_nil, or_false] at hc
                omega
end
end Vf

set_option Elab.async false
set_option linter.all false
set_option maxRecDepth 100000
set_option maxHeartbeats 4000000
namespace Vf
open PySem PySem.Spec PyProof.Rows L2 TL
def kk (p q : Int) : List Key := [.inl p, .inl q]
theorem kk_inj {p q p' q' : Int} : kk p q = kk p' q' ↔ p = p' ∧ q = q' := by
  refine ⟨fun h => ?_, fun ⟨a, b⟩ => by rw [a, b]⟩
  have h := List.cons.inj h
  have h2 := List.cons.inj h.2
  exact ⟨Sum.inl.inj h.1, Sum.inl.inj h2.1⟩
/-- the dict at D holds f -/
def DemV (H : Hp) (D : Addr) (N : Nat) (f : Int → Int → Option Nat) : Prop := ∃ kvs : List (List Key × V), H D = some (.dT kvs) ∧ kvs.length ≤ N ∧ ∀ p q : Int, valV kvs (kk p q) = (f p q).map nV
theorem DemV.put {H : Hp} {D : Addr} {N : Nat} {f : Int → Int → Option Nat} (h : DemV H D N f) (p q : Int) (v : Nat) (f' : Int → Int → Option Nat) (e : ∀ a b, f' a b = if p = a ∧ q = b then some v else f a b) :
    ∀ kvs : List (List Key × V), H D = some (.dT kvs) → kvs.length ≤ N ∧ DemV (upd H D (.dT (putK kvs (kk p q) (nV v)))) D (N + 1) f' := by
  obtain ⟨kvs, h1, h2, h3⟩ := h
  intro kvs' h4
  rw [h1] at h4
  have := HO.dT.inj (Option.some.inj h4)
  subst this
  refine ⟨h2, _, upd_same, Nat.le_trans (length_putK _ _ _) (by omega), fun a b => ?_⟩
  rw [valV_put, e]
  by_cases c : p = a ∧ q = b
  · rw [if_pos c, if_pos (kk_inj.mpr ⟨c.1.symm, c.2.symm⟩)]; rfl
  · rw [if_neg c, if_neg (fun z => c ⟨(kk_inj.mp z).1.symm, (kk_inj.mp z).2.symm⟩)]; exact h3 a b
def TabOk (n : Nat) (cs : List Arc) : Prop := 1 ≤ n ∧ n ≤ 40 ∧ cs.length ≤ 1000 ∧ ∀ r ∈ cs, 1 ≤ r.2.1 ∧ r.1 + r.2.1 ≤ n
/-- the cells in the heap -/
def CellsV (H : Hp) (v : V) (cs : List Arc) : Prop := ∃ a vs, v = .ref a ∧ H a = some (.tup vs) ∧ LV (ArcV H) vs cs
theorem CellsV.mono {H H' : Hp} {v : V} {cs : List Arc} (h : CellsV H v cs) (k : ∀ a xs, H a = some (.tup xs) → H' a = some (.tup xs)) : CellsV H' v cs := by
  obtain ⟨a, vs, e, h1, h2⟩ := h
  exact ⟨a, vs, e, k _ _ h1, h2.mono fun _ _ z => z.mono k⟩
theorem same_tups {H H' : Hp} (h : Same H H') : ∀ a xs, H a = some (.tup xs) → H' a = some (.tup xs) := fun a xs e => h _ _ e
section
variable {P : Program} {w : World} {K : PySem.W.Frag} {mg : Str → Option Value} {base : Heap}
def spDemands : Sp := fun vs H Q _ => ∃ (v : V) (n : Nat) (cs : List Arc), vs = [nV n, v] ∧ CellsV H v cs ∧ TabOk n cs ∧ ∀ H' D, Same H H' → H D = none → DemV H' D 2000 (demT n cs) → Q (.ref D) H'
theorem ok_demands (T : Txt K mg) : FnOk P w K mg base CX0 1 T.a_demands T.d_demands ["tracks", "cells"] spDemands := by
  refine T.D_demands.F.ok sc_demands (fun vs H Q E h => ?_) (fun cdv A outer s H vs Q E hr h => ?_)
  · obtain ⟨v, n, cs, rfl, _⟩ := h
    rfl
  · obtain ⟨v, n, cs, rfl, ⟨a, us, rfl, e1, lv⟩, ok, q⟩ := h
    obtain ⟨n1, n2, n3, n4⟩ := ok
    refine ⟨_, (pss_cons (ps_setDcT (i := 2) (own := [("track", 3)]) (g := gName 3) (tt := tYes) rfl (hu0 hr) sc_demands.nd rfl rfl (sw_dict rfl rfl rfl (by decide +kernel)) (pi_range1 (by rfl) T.n_range (pa_cons (pv 0) pa_nil)) (blkOk_by (own := [("track", 3)]) (N := ["tracks", "cells", "demands", "track", "span", "width", "sides"]) (sc := (defScope s_demands)) (by decide +kernel)) (fun _ _ _ _ _ => (pg_name (i := 3) sc_demands.nd rfl (.inl rfl))) (fun _ _ _ _ _ => pts_nil) (fun _ _ _ _ _ => (pe_tup (pa_cons (pv 3) (pa_cons (pe_op op_add (pv 3) pe_int) pa_nil)))) (fun _ _ _ _ _ => pe_int))
      (pss_cons (ps_for PassesOwn.never rfl (pi_tup (pv 1)) (pg_tup (by rfl) (pgs_cons (pg_name (i := 3) sc_demands.nd rfl (.inl rfl)) (pgs_cons (pg_name (i := 4) sc_demands.nd rfl (.inl rfl)) (pgs_cons (pg_name (i := 5) sc_demands.nd rfl (.inl rfl)) pgs_nil)))) (pss_cons (ps_set (i := 6) sc_demands.nd rfl (.inl rfl) (pe_tup (pa_cons (pv 3) (pa_cons (pe_op op_add (pv 3) (pv 4)) pa_nil))))
      (pss_one (ps_dput (hu1 hr) (pv 2) (pv 6) (pe_callB (call_max2 (by rfl)) (by rfl) T.n_max (by decide +kernel) (pa_cons (pe_dget2 (hu1 hr) (pv 2) (pv 6) pe_int ⟨rfl, rfl, rfl, rfl⟩) (pa_cons (pe_op op_add (pv 5) pe_int) pa_nil))) rfl))))
      (pss_one (ps_ret (pv 2))))), ?_⟩
    refine ⟨_, rfl, (n : Int), rfl, by omega, by omega, ?_⟩
    rw [show (((n : Nat) : Int)).toNat = n from Int.toNat_natCast n]
    refine fun D nD => dcT_it walk_range (fun i H' => Same H H' ∧ DemV H' D i (fun p q => if q = p + 1 ∧ 0 ≤ p ∧ p < (i : Int) then some 1 else none)) ⟨same_upd (Same.refl H) nD, [], upd_same, Nat.le_refl _, fun p q => by show none = Option.map nV (if q = p + 1 ∧ 0 ≤ p ∧ p < ((0 : Nat) : Int) then some 1 else none); rw [if_neg (by omega)]; rfl⟩ (fun _ _ _ _ => trivial) ?_ ?_
    · rintro i x H2 H3 hi ⟨k2, dv⟩ ⟨rfl, hx⟩
      have hx : x = nV i := by rw [hx]; show V.int (0 + (i : Int)) = _; rw [Int.zero_add]; rfl
      subst hx
      obtain ⟨kvs, f1, f2, f3⟩ := id dv
      have nDt : H D = none := nD
      refine ⟨rfl, _, rfl, _, rfl, _, _, rfl, rfl, by show 2 ≤ sizeLine; decide, fun t nt => ?_⟩
      have k3 := same_upd (o := .tup [nV i, nV (i + 1)]) (Same.refl H3) nt
      have d3 : DemV (upd H3 t (.tup [nV i, nV (i + 1)])) D i (fun p q => if q = p + 1 ∧ 0 ≤ p ∧ p < (i : Int) then some 1 else none) := ⟨kvs, k3 _ _ f1, f2, f3⟩
      have ⟨l3, d4⟩ := d3.put (i : Int) ((i : Int) + 1) 1 (fun p q => if q = p + 1 ∧ 0 ≤ p ∧ p < ((i + 1 : Nat) : Int) then some 1 else none) (fun a b => by
        by_cases c : (i : Int) = a ∧ (i : Int) + 1 = b
        · rw [if_pos c, if_pos (by omega)]
        · rw [if_neg c]
          by_cases c2 : b = a + 1 ∧ 0 ≤ a ∧ a < (i : Int)
          · rw [if_pos (by omega), if_pos c2]
          · rw [if_neg (by omega), if_neg c2]) kvs (k3 _ _ f1)
      exact ⟨kvs, kk (i : Int) ((i : Int) + 1), t, rfl, upd_same, k3 _ _ f1, szN (by omega), same_mut (k2.trans k3) nD, d4⟩
    · rintro H2 ⟨k2, dv⟩
      have d0 : DemV H2 D n (demT n []) := by
        obtain ⟨kvs, f1, f2, f3⟩ := dv
        refine ⟨kvs, f1, f2, fun p q => (f3 p q).trans ?_⟩
        show Option.map nV (if q = p + 1 ∧ 0 ≤ p ∧ p < (n : Int) then some 1 else none) = Option.map nV (mx ((if q = p + 1 ∧ 0 ≤ p ∧ p < (n : Int) then [1] else []) ++ []))
        by_cases c : q = p + 1 ∧ 0 ≤ p ∧ p < (n : Int)
        · rw [if_pos c, if_pos c]; rfl
        · rw [if_neg c, if_neg c]; rfl
      refine ⟨_, rfl, a, rfl, ⟨us, SqT.of (k2 _ _ e1)⟩, ?_⟩
      refine for_it (walk_tup (K := K) (a := a) (xs := us)) (fun i σ' H' => ∃ (x3 x4 x5 x6 : Option V), σ' = [some (nV n), some (.ref a), some (.ref D), x3, x4, x5, x6] ∧ Same H H' ∧ DemV H' D (n + i) (demT n (cs.take i))) ⟨none, none, none, none, rfl, k2, d0⟩ ?_ ?_ ?_
      · rintro i σ' H' _ ⟨_, _, _, _, _, k, _⟩
        exact SqT.of (k _ _ e1)
      · rintro i x σ' H3 H4 hi ⟨x3, x4, x5, x6, rfl, k3, dv⟩ ⟨rfl, hx⟩
        obtain ⟨r, hr, c, rfl, ec⟩ := lv.at hx
        have hil : i < cs.length := (List.getElem?_eq_some_iff.mp hr).1
        refine ⟨c, _, rfl, SqT.of (k3 _ _ ec), rfl, _, _, rfl, _, _, rfl, _, _, rfl, rfl, ?_⟩
        refine ⟨_, rfl, _, rfl, _, rfl, _, _, rfl, rfl, by show 2 ≤ sizeLine; decide, fun t nt => ?_⟩
        obtain ⟨kvs, f1, f2, f3⟩ := id dv
        have k4 := same_upd (o := .tup [nV r.1, nV (r.1 + r.2.1)]) (Same.refl _) nt
        have et : upd H4 t (.tup [nV r.1, nV (r.1 + r.2.1)]) t = some (.tup ((kk (r.1 : Int) ((r.1 : Int) + (r.2.1 : Int))).map kV)) := upd_same
        have f1' := k4 _ _ f1
        have d4 : DemV (upd H4 t (.tup [nV r.1, nV (r.1 + r.2.1)])) D (n + i) (demT n (cs.take i)) := ⟨kvs, f1', f2, f3⟩
        refine ⟨_, rfl, D, rfl, .inr ⟨kvs, .inl f1'⟩, _, rfl, _, DGet.t f1' et, ?_⟩
        rw [f3]
        have ev : ((demT n (cs.take i) (r.1 : Int) ((r.1 : Int) + (r.2.1 : Int))).map nV).getD (V.int 1) = nV ((demT n (cs.take i) (r.1 : Int) ((r.1 : Int) + (r.2.1 : Int))).getD 1) := by
          cases demT n (cs.take i) (r.1 : Int) ((r.1 : Int) + (r.2.1 : Int)) <;> rfl
        rw [ev]
        obtain ⟨g, eg⟩ : ∃ g, g = (demT n (cs.take i) (r.1 : Int) ((r.1 : Int) + (r.2.1 : Int))).getD 1 := ⟨_, rfl⟩
        rw [← eg]
        have em : (if (r.2.2 : Int) + 1 > (g : Int) then (r.2.2 : Int) + 1 else (g : Int)) = ((max g (r.2.2 + 1) : Nat) : Int) := by
          by_cases c : g ≤ r.2.2 + 1
          · rw [Nat.max_eq_right c]
            by_cases c2 : (r.2.2 : Int) + 1 > (g : Int)
            · rw [if_pos c2]; rfl
            · rw [if_neg c2]; omega
          · rw [Nat.max_eq_left (by omega), if_neg (by omega)]
        refine ⟨_, rfl, _, _, rfl, rfl, _, _, rfl, ?_⟩
        show tVar 2 _ _ _
        rw [em]
        have ⟨lk, d5⟩ := d4.put (r.1 : Int) ((r.1 : Int) + (r.2.1 : Int)) (max g (r.2.2 + 1)) (demT n (cs.take (i + 1))) (fun a b => by
          rw [take_succ' hr, demT_snoc]
          by_cases c : (r.1 : Int) = a ∧ (r.1 : Int) + (r.2.1 : Int) = b
          · rw [if_pos c, if_pos c, eg, ← c.1, ← c.2]
          · rw [if_neg c, if_neg c]) kvs f1'
        exact ⟨_, rfl, _, rfl, D, _, rfl, DPut.t f1' et (szN (by omega)), _, _, _, _, rfl, same_mut (k3.trans k4) nD, d5⟩
      · rintro σ' H3 ⟨x3, x4, x5, x6, rfl, k3, dv⟩
        rw [lv.1, List.take_length] at dv
        obtain ⟨kvs, f1, f2, f3⟩ := dv
        exact ⟨_, rfl, q H3 D k3 nD ⟨kvs, f1, by omega, f3⟩⟩
theorem DemV.get {H : Hp} {D b : Addr} {N : Nat} {f : Int → Int → Option Nat} {p q : Int} (h : DemV H D N f) (eb : H b = some (.tup [.int p, .int q])) : DGet H D (.ref b) ((f p q).map nV) := by
  obtain ⟨kvs, h1, _, h3⟩ := h
  rw [← h3 p q]
  exact DGet.t h1 eb
theorem DemV.other {H : Hp} {D a : Addr} {o : HO} {N : Nat} {f : Int → Int → Option Nat} (h : DemV H D N f) (n : D ≠ a) : DemV (upd H a o) D N f := by
  obtain ⟨kvs, h1, h2, h3⟩ := h
  exact ⟨kvs, by rw [upd_ne n]; exact h1, h2, h3⟩
theorem DemV.keep {H H' : Hp} {D : Addr} {N : Nat} {f : Int → Int → Option Nat} (h : DemV H D N f) (k : Same H H') : DemV H' D N f := by
  obtain ⟨kvs, h1, h2, h3⟩ := h
  exact ⟨kvs, k _ _ h1, h2, h3⟩
def spBoundaries : Sp := fun vs H Q _ => ∃ (v : V) (n : Nat) (cs : List Arc), vs = [nV n, v] ∧ CellsV H v cs ∧ TabOk n cs ∧ ∀ H' B, Same H H' → H' B = some (.tup ((bl cs n).map nV)) → Q (.ref B) H'
theorem ok_boundaries (T : Txt K mg) : FnOk P w K mg base CX0 2 T.a_boundaries T.d_boundaries ["tracks", "cells"] spBoundaries := by
  have G_demands : FnOk P w K mg base CX0 1 T.a_demands T.d_demands ["tracks", "cells"] spDemands := ok_demands T
  refine T.D_boundaries.F.ok sc_boundaries (fun vs H Q E h => ?_) (fun cdv A outer s H vs Q E hr h => ?_)
  · obtain ⟨v, n, cs, rfl, _⟩ := h
    rfl
  · obtain ⟨v, n, cs, rfl, hc, ok, q⟩ := h
    refine ⟨_, (pss_cons (ps_set (i := 2) sc_boundaries.nd rfl (.inr rfl) (pe_call G_demands (hr.mono (by decide)) (by rfl) T.D_demands.G T.D_demands.F.kp T.D_demands.B .nil pass0 (pa_cons (pv 0) (pa_cons (pv 1) pa_nil))))
      (pss_cons (ps_set (i := 3) sc_boundaries.nd rfl (.inr rfl) (pe_lst (pa_cons pe_int pa_nil)))
      (pss_cons (ps_for PassesOwn.never rfl (pi_range2 (by rfl) T.n_range (pa_cons pe_int (pa_cons (pe_op op_add (pv 0) pe_int) pa_nil))) (pg_name (i := 4) sc_boundaries.nd rfl (.inr rfl)) (pss_one (ps_expr (pe_bm PySem.F.plainAttrs_list PySem.F.slot_list_append PySem.F.type_list_append mt_append (pv 3) (pa_cons (pe_callB (cr_max (by rfl)) (by rfl) T.n_max (by decide +kernel) (pa_cons (pe_lc (own := [("ahead", 5)]) (g := gName 5) rfl sc_boundaries.nd (pi_range1 (by rfl) T.n_range (pa_cons (pv 4) pa_nil)) (blkOk_by (own := [("ahead", 5)]) (N := ["tracks", "cells", "demands", "found", "behind", "ahead"]) (sc := (defScope s_boundaries)) (by decide +kernel)) (fun _ _ _ _ _ => (pg_name (i := 5) sc_boundaries.nd rfl (.inl rfl))) (fun _ _ _ _ _ => (pts_one (pt_cmp (pc_din (hu1 hr) (pe_tup (pa_cons (pv 5) (pa_cons (pv 4) pa_nil))) (pv 2))))) (fun _ _ _ _ _ => (pe_op op_add (pe_ix (r := rIxL K) ix_list (pv 3) (pv 5) (fun _ _ => rfl)) (pe_dget (hu1 hr) (pv 2) (pe_tup (pa_cons (pv 5) (pa_cons (pv 4) pa_nil))) (fun _ _ => rfl))))) pa_nil)) pa_nil)))))
      (pss_one (ps_ret (pe_callTy call_tuple_of (by rfl) T.n_tuple (by decide +kernel) (pa_cons (pv 3) pa_nil))))))), ?_⟩
    refine ⟨_, rfl, _, rfl, v, n, cs, rfl, hc, ok, fun H1 D k1 nD dv => ?_⟩
    obtain ⟨n1, n2, n3, n4⟩ := ok
    refine ⟨by show 1 ≤ sizeLine; decide, fun F nF => ?_⟩
    have k2 := same_upd (o := .lst [V.int 0]) (Same.refl H1) nF
    have nFH : H F = none := by
      cases e : H F with
      | none => rfl
      | some o => rw [k1 _ _ e] at nF; cases nF
    have nFD : D ≠ F := by
      obtain ⟨kvs, h1, _⟩ := dv
      exact ne_of_none h1 nF
    refine ⟨_, rfl, _, _, rfl, rfl, _, _, rfl, ⟨by decide, by decide, by omega, by omega⟩, ?_⟩
    rw [show (((n : Nat) : Int) + 1 - 1).toNat = n by omega]
    refine for_it walk_range (fun i σ' H' => ∃ (x4 x5 : Option V), σ' = [some (nV n), some v, some (.ref D), some (.ref F), x4, x5] ∧ Same H H' ∧ DemV H' D 2000 (demT n cs) ∧ H' F = some (.lst ((bl cs i).map nV))) ⟨none, none, rfl, k1.trans k2, dv.keep k2, upd_same⟩ (fun _ _ _ _ _ => trivial) ?_ ?_
    · rintro i x σ' H2 H3 hi ⟨x4, x5, rfl, k3, dv, eF⟩ ⟨rfl, hx⟩
      have hx : x = nV (i + 1) := by rw [hx]; show V.int (1 + (i : Int)) = _; rw [show 1 + (i : Int) = ((i + 1 : Nat) : Int) by omega]; rfl
      subst hx
      refine ⟨.ref F, rfl, .inl ⟨rfl, _, .inl (.inl eF)⟩, ?_⟩
      refine ⟨_, rfl, ((i + 1 : Nat) : Int), rfl, by omega, by omega, ?_⟩
      rw [Int.toNat_natCast]
      refine fun C nC => lc_range (lo := 0) (n := i + 1) (fun j H' => Same H3 H' ∧ H' C = some (.lst (((List.range j).filterMap (cand cs (bl cs i) (i + 1))).map nV)) ∧ ((List.range j).filterMap (cand cs (bl cs i) (i + 1))).length ≤ j) ⟨same_upd (Same.refl H3) nC, upd_same, Nat.le_refl _⟩ (fun j H4 hj p => ⟨rfl, ?_⟩) (fun H4 p => ?_)
      · obtain ⟨k4, eC, lC⟩ := p
        have ej : V.int (0 + (j : Int)) = nV j := by rw [Int.zero_add]; rfl
        have lb := bl_len cs i
        have gF : ((bl cs i).map nV)[j]? = some (nV ((bl cs i).getD j 0)) := by
          rw [List.getElem?_map, List.getD_eq_getElem?_getD, List.getElem?_eq_getElem (by omega)]; rfl
        have eD : demT n cs (j : Int) ((i + 1 : Nat) : Int) = dem cs j (i + 1) := demT_eq (by omega)
        have rs : (List.range (j + 1)).filterMap (cand cs (bl cs i) (i + 1)) = (List.range j).filterMap (cand cs (bl cs i) (i + 1)) ++ (cand cs (bl cs i) (i + 1) j).toList := by
          rw [List.range_succ, List.filterMap_append]
          cases h : cand cs (bl cs i) (i + 1) j with
          | none => rw [List.filterMap_cons_none h]; rfl
          | some x => rw [List.filterMap_cons_some h]; rfl
        refine ⟨_, rfl, _, rfl, by show 2 ≤ sizeLine; decide, fun t nt => ?_⟩
        have k5 := same_upd (o := .tup [V.int (0 + (j : Int)), nV (i + 1)]) (Same.refl H4) nt
        have et : upd H4 t (.tup [V.int (0 + (j : Int)), nV (i + 1)]) t = some (.tup [nV j, nV (i + 1)]) := by rw [upd_same, ej]
        have dv5 := (dv.keep k4).keep k5
        have g1 := dv5.get et
        rw [eD] at g1
        generalize upd H4 t (.tup [V.int (0 + (j : Int)), nV (i + 1)]) = H5 at k5 dv5 g1
        cases hd : dem cs j (i + 1) with
        | none =>
          rw [hd] at g1
          have ec : cand cs (bl cs i) (i + 1) j = none := by unfold cand; rw [hd]; rfl
          refine ⟨_, rfl, D, _, rfl, g1, _, rfl, k4.trans k5, ?_, ?_⟩
          · rw [rs, ec]; show _ = some (HO.lst ((_ ++ []).map nV)); rw [List.append_nil]; exact k5 _ _ eC
          · rw [rs, ec]; show (_ ++ []).length ≤ _; rw [List.append_nil]; omega
        | some e =>
          rw [hd] at g1
          have ec : cand cs (bl cs i) (i + 1) j = some ((bl cs i).getD j 0 + e) := by unfold cand; rw [hd]; rfl
          refine ⟨_, rfl, D, _, rfl, g1, _, rfl, ?_⟩
          have ka := k4.trans k5
          have eF5 := ka _ _ eF
          refine ⟨_, rfl, _, rfl, F, _, _, _, rfl, rfl, SqL.of eF5, by rw [Int.zero_add]; exact atI_nat gF, _, rfl, _, rfl, _, rfl, by show 2 ≤ sizeLine; decide, fun u nu => ?_⟩
          have k6 := same_upd (o := .tup [V.int (0 + (j : Int)), nV (i + 1)]) (Same.refl H5) nu
          have eu : upd H5 u (.tup [V.int (0 + (j : Int)), nV (i + 1)]) u = some (.tup [nV j, nV (i + 1)]) := by rw [upd_same, ej]
          have g2 := (dv5.keep k6).get eu
          rw [eD, hd] at g2
          generalize upd H5 u (.tup [V.int (0 + (j : Int)), nV (i + 1)]) = H6 at k6 g2
          refine ⟨D, _, rfl, g2, _, _, rfl, rfl, ?_⟩
          have kb := ka.trans k6
          refine ⟨_, k6 _ _ (k5 _ _ eC), by rw [List.length_map]; exact szN (by omega), same_mut kb nC, ?_, ?_⟩
          · rw [upd_same, rs, ec, List.map_append]; rfl
          · rw [rs, ec, List.length_append]; show _ + 1 ≤ _; omega
      · obtain ⟨k4, eC, lC⟩ := p
        obtain ⟨m0, hm0⟩ := cand_ne (cs := cs) (bs := bl cs i) i
        have nCF : F ≠ C := ne_of_none eF nC
        refine ⟨C, ((List.range (i + 1)).filterMap (cand cs (bl cs i) (i + 1))).map (fun x : Nat => (x : Int)), rfl, SqL.of (by rw [eC, List.map_map]; rfl), ?_, fun m hm hM => ?_⟩
        · rw [List.length_map]
          have ⟨g, _⟩ := mx_spec hm0
          exact List.length_pos_of_mem g
        · obtain ⟨v0, hv0, rfl⟩ := List.mem_map.mp hm
          have e0 : mx ((List.range (i + 1)).filterMap (cand cs (bl cs i) (i + 1))) = some v0 := mx_of hv0 fun x hx => by
            have := hM (x : Int) (List.mem_map.mpr ⟨x, hx, rfl⟩)
            omega
          have lb := bl_len cs i
          refine ⟨F, _, _, rfl, rfl, k4 _ _ eF, by rw [List.length_map]; exact szN (by omega), _, _, rfl, same_mut (k3.trans k4) nFH, (dv.keep k4).other nFD, ?_⟩
          rw [upd_same]
          show _ = some (HO.lst ((bl cs i ++ [(mx ((List.range (i + 1)).filterMap (cand cs (bl cs i) (i + 1)))).getD 0]).map nV))
          rw [e0, List.map_append]; rfl
    · rintro σ' H2 ⟨x4, x5, rfl, k3, dv, eF⟩
      refine ⟨_, rfl, F, _, rfl, .inl ⟨SqL.of eF, fun B nB => q _ B ?_ upd_same⟩⟩
      exact k3.trans (same_upd (Same.refl H2) nB)
end
end Vf

set_option Elab.async false
set_option linter.all false
set_option maxRecDepth 100000
set_option maxHeartbeats 4000000
namespace Vf
open PySem PySem.Spec PyProof.Rows L2 TL
/-- the cells in the heap -/
def CellsL (H : Hp) (v : V) (cs : List Arc) : Prop := ∃ a vs, v = .ref a ∧ H a = some (.lst vs) ∧ LV (ArcV H) vs cs
section
variable {P : Program} {w : World} {K : PySem.W.Frag} {mg : Str → Option Value} {base : Heap}
def spDemandsL : Sp := fun vs H Q _ => ∃ (v : V) (n : Nat) (cs : List Arc), vs = [nV n, v] ∧ CellsL H v cs ∧ TabOk n cs ∧ ∀ H' D, Same H H' → H D = none → DemV H' D 2000 (demT n cs) → Q (.ref D) H'
theorem ok_demandsL (T : Txt K mg) : FnOk P w K mg base CX0 1 T.a_demands T.d_demands ["tracks", "cells"] spDemandsL := by
  refine T.D_demands.F.ok sc_demands (fun vs H Q E h => ?_) (fun cdv A outer s H vs Q E hr h => ?_)
  · obtain ⟨v, n, cs, rfl, _⟩ := h
    rfl
  · obtain ⟨v, n, cs, rfl, ⟨a, us, rfl, e1, lv⟩, ok, q⟩ := h
    obtain ⟨n1, n2, n3, n4⟩ := ok
    refine ⟨_, (pss_cons (ps_setDcT (i := 2) (own := [("track", 3)]) (g := gName 3) (tt := tYes) rfl (hu0 hr) sc_demands.nd rfl rfl (sw_dict rfl rfl rfl (by decide +kernel)) (pi_range1 (by rfl) T.n_range (pa_cons (pv 0) pa_nil)) (blkOk_by (own := [("track", 3)]) (N := ["tracks", "cells", "demands", "track", "span", "width", "sides"]) (sc := (defScope s_demands)) (by decide +kernel)) (fun _ _ _ _ _ => (pg_name (i := 3) sc_demands.nd rfl (.inl rfl))) (fun _ _ _ _ _ => pts_nil) (fun _ _ _ _ _ => (pe_tup (pa_cons (pv 3) (pa_cons (pe_op op_add (pv 3) pe_int) pa_nil)))) (fun _ _ _ _ _ => pe_int))
      (pss_cons (ps_for PassesOwn.never rfl (pi_list (pv 1)) (pg_tup (by rfl) (pgs_cons (pg_name (i := 3) sc_demands.nd rfl (.inl rfl)) (pgs_cons (pg_name (i := 4) sc_demands.nd rfl (.inl rfl)) (pgs_cons (pg_name (i := 5) sc_demands.nd rfl (.inl rfl)) pgs_nil)))) (pss_cons (ps_set (i := 6) sc_demands.nd rfl (.inl rfl) (pe_tup (pa_cons (pv 3) (pa_cons (pe_op op_add (pv 3) (pv 4)) pa_nil))))
      (pss_one (ps_dput (hu1 hr) (pv 2) (pv 6) (pe_callB (call_max2 (by rfl)) (by rfl) T.n_max (by decide +kernel) (pa_cons (pe_dget2 (hu1 hr) (pv 2) (pv 6) pe_int ⟨rfl, rfl, rfl, rfl⟩) (pa_cons (pe_op op_add (pv 5) pe_int) pa_nil))) rfl))))
      (pss_one (ps_ret (pv 2))))), ?_⟩
    refine ⟨_, rfl, (n : Int), rfl, by omega, by omega, ?_⟩
    rw [show (((n : Nat) : Int)).toNat = n from Int.toNat_natCast n]
    refine fun D nD => dcT_it walk_range (fun i H' => Same H H' ∧ DemV H' D i (fun p q => if q = p + 1 ∧ 0 ≤ p ∧ p < (i : Int) then some 1 else none)) ⟨same_upd (Same.refl H) nD, [], upd_same, Nat.le_refl _, fun p q => by show none = Option.map nV (if q = p + 1 ∧ 0 ≤ p ∧ p < ((0 : Nat) : Int) then some 1 else none); rw [if_neg (by omega)]; rfl⟩ (fun _ _ _ _ => trivial) ?_ ?_
    · rintro i x H2 H3 hi ⟨k2, dv⟩ ⟨rfl, hx⟩
      have hx : x = nV i := by rw [hx]; show V.int (0 + (i : Int)) = _; rw [Int.zero_add]; rfl
      subst hx
      obtain ⟨kvs, f1, f2, f3⟩ := id dv
      have nDt : H D = none := nD
      refine ⟨rfl, _, rfl, _, rfl, _, _, rfl, rfl, by show 2 ≤ sizeLine; decide, fun t nt => ?_⟩
      have k3 := same_upd (o := .tup [nV i, nV (i + 1)]) (Same.refl H3) nt
      have d3 : DemV (upd H3 t (.tup [nV i, nV (i + 1)])) D i (fun p q => if q = p + 1 ∧ 0 ≤ p ∧ p < (i : Int) then some 1 else none) := ⟨kvs, k3 _ _ f1, f2, f3⟩
      have ⟨l3, d4⟩ := d3.put (i : Int) ((i : Int) + 1) 1 (fun p q => if q = p + 1 ∧ 0 ≤ p ∧ p < ((i + 1 : Nat) : Int) then some 1 else none) (fun a b => by
        by_cases c : (i : Int) = a ∧ (i : Int) + 1 = b
        · rw [if_pos c, if_pos (by omega)]
        · rw [if_neg c]
          by_cases c2 : b = a + 1 ∧ 0 ≤ a ∧ a < (i : Int)
          · rw [if_pos (by omega), if_pos c2]
          · rw [if_neg (by omega), if_neg c2]) kvs (k3 _ _ f1)
      exact ⟨kvs, kk (i : Int) ((i : Int) + 1), t, rfl, upd_same, k3 _ _ f1, szN (by omega), same_mut (k2.trans k3) nD, d4⟩
    · rintro H2 ⟨k2, dv⟩
      have d0 : DemV H2 D n (demT n []) := by
        obtain ⟨kvs, f1, f2, f3⟩ := dv
        refine ⟨kvs, f1, f2, fun p q => (f3 p q).trans ?_⟩
        show Option.map nV (if q = p + 1 ∧ 0 ≤ p ∧ p < (n : Int) then some 1 else none) = Option.map nV (mx ((if q = p + 1 ∧ 0 ≤ p ∧ p < (n : Int) then [1] else []) ++ []))
        by_cases c : q = p + 1 ∧ 0 ≤ p ∧ p < (n : Int)
        · rw [if_pos c, if_pos c]; rfl
        · rw [if_neg c, if_neg c]; rfl
      refine ⟨_, rfl, a, rfl, ⟨us, SqL.of (k2 _ _ e1)⟩, ?_⟩
      refine for_it (walk_list (K := K) (a := a) (xs := us)) (fun i σ' H' => ∃ (x3 x4 x5 x6 : Option V), σ' = [some (nV n), some (.ref a), some (.ref D), x3, x4, x5, x6] ∧ Same H H' ∧ DemV H' D (n + i) (demT n (cs.take i))) ⟨none, none, none, none, rfl, k2, d0⟩ ?_ ?_ ?_
      · rintro i σ' H' _ ⟨_, _, _, _, _, k, _⟩
        exact SqL.of (k _ _ e1)
      · rintro i x σ' H3 H4 hi ⟨x3, x4, x5, x6, rfl, k3, dv⟩ ⟨rfl, hx⟩
        obtain ⟨r, hr, c, rfl, ec⟩ := lv.at hx
        have hil : i < cs.length := (List.getElem?_eq_some_iff.mp hr).1
        refine ⟨c, _, rfl, SqT.of (k3 _ _ ec), rfl, _, _, rfl, _, _, rfl, _, _, rfl, rfl, ?_⟩
        refine ⟨_, rfl, _, rfl, _, rfl, _, _, rfl, rfl, by show 2 ≤ sizeLine; decide, fun t nt => ?_⟩
        obtain ⟨kvs, f1, f2, f3⟩ := id dv
        have k4 := same_upd (o := .tup [nV r.1, nV (r.1 + r.2.1)]) (Same.refl _) nt
        have et : upd H4 t (.tup [nV r.1, nV (r.1 + r.2.1)]) t = some (.tup ((kk (r.1 : Int) ((r.1 : Int) + (r.2.1 : Int))).map kV)) := upd_same
        have f1' := k4 _ _ f1
        have d4 : DemV (upd H4 t (.tup [nV r.1, nV (r.1 + r.2.1)])) D (n + i) (demT n (cs.take i)) := ⟨kvs, f1', f2, f3⟩
        refine ⟨_, rfl, D, rfl, .inr ⟨kvs, .inl f1'⟩, _, rfl, _, DGet.t f1' et, ?_⟩
        rw [f3]
        have ev : ((demT n (cs.take i) (r.1 : Int) ((r.1 : Int) + (r.2.1 : Int))).map nV).getD (V.int 1) = nV ((demT n (cs.take i) (r.1 : Int) ((r.1 : Int) + (r.2.1 : Int))).getD 1) := by
          cases demT n (cs.take i) (r.1 : Int) ((r.1 : Int) + (r.2.1 : Int)) <;> rfl
        rw [ev]
        obtain ⟨g, eg⟩ : ∃ g, g = (demT n (cs.take i) (r.1 : Int) ((r.1 : Int) + (r.2.1 : Int))).getD 1 := ⟨_, rfl⟩
        rw [← eg]
        have em : (if (r.2.2 : Int) + 1 > (g : Int) then (r.2.2 : Int) + 1 else (g : Int)) = ((max g (r.2.2 + 1) : Nat) : Int) := by
          by_cases c : g ≤ r.2.2 + 1
          · rw [Nat.max_eq_right c]
            by_cases c2 : (r.2.2 : Int) + 1 > (g : Int)
            · rw [if_pos c2]; rfl
            · rw [if_neg c2]; omega
          · rw [Nat.max_eq_left (by omega), if_neg (by omega)]
        refine ⟨_, rfl, _, _, rfl, rfl, _, _, rfl, ?_⟩
        show tVar 2 _ _ _
        rw [em]
        have ⟨lk, d5⟩ := d4.put (r.1 : Int) ((r.1 : Int) + (r.2.1 : Int)) (max g (r.2.2 + 1)) (demT n (cs.take (i + 1))) (fun a b => by
          rw [take_succ' hr, demT_snoc]
          by_cases c : (r.1 : Int) = a ∧ (r.1 : Int) + (r.2.1 : Int) = b
          · rw [if_pos c, if_pos c, eg, ← c.1, ← c.2]
          · rw [if_neg c, if_neg c]) kvs f1'
        exact ⟨_, rfl, _, rfl, D, _, rfl, DPut.t f1' et (szN (by omega)), _, _, _, _, rfl, same_mut (k3.trans k4) nD, d5⟩
      · rintro σ' H3 ⟨x3, x4, x5, x6, rfl, k3, dv⟩
        rw [lv.1, List.take_length] at dv
        obtain ⟨kvs, f1, f2, f3⟩ := dv
        exact ⟨_, rfl, q H3 D k3 nD ⟨kvs, f1, by omega, f3⟩⟩



def spBoundariesL : Sp := fun vs H Q _ => ∃ (v : V) (n : Nat) (cs : List Arc), vs = [nV n, v] ∧ CellsL H v cs ∧ TabOk n cs ∧ ∀ H' B, Same H H' → H' B = some (.tup ((bl cs n).map nV)) → Q (.ref B) H'
theorem ok_boundariesL (T : Txt K mg) : FnOk P w K mg base CX0 2 T.a_boundaries T.d_boundaries ["tracks", "cells"] spBoundariesL := by
  have G_demands : FnOk P w K mg base CX0 1 T.a_demands T.d_demands ["tracks", "cells"] spDemandsL := ok_demandsL T
  refine T.D_boundaries.F.ok sc_boundaries (fun vs H Q E h => ?_) (fun cdv A outer s H vs Q E hr h => ?_)
  · obtain ⟨v, n, cs, rfl, _⟩ := h
    rfl
  · obtain ⟨v, n, cs, rfl, hc, ok, q⟩ := h
    refine ⟨_, (pss_cons (ps_set (i := 2) sc_boundaries.nd rfl (.inr rfl) (pe_call G_demands (hr.mono (by decide)) (by rfl) T.D_demands.G T.D_demands.F.kp T.D_demands.B .nil pass0 (pa_cons (pv 0) (pa_cons (pv 1) pa_nil))))
      (pss_cons (ps_set (i := 3) sc_boundaries.nd rfl (.inr rfl) (pe_lst (pa_cons pe_int pa_nil)))
      (pss_cons (ps_for PassesOwn.never rfl (pi_range2 (by rfl) T.n_range (pa_cons pe_int (pa_cons (pe_op op_add (pv 0) pe_int) pa_nil))) (pg_name (i := 4) sc_boundaries.nd rfl (.inr rfl)) (pss_one (ps_expr (pe_bm PySem.F.plainAttrs_list PySem.F.slot_list_append PySem.F.type_list_append mt_append (pv 3) (pa_cons (pe_callB (cr_max (by rfl)) (by rfl) T.n_max (by decide +kernel) (pa_cons (pe_lc (own := [("ahead", 5)]) (g := gName 5) rfl sc_boundaries.nd (pi_range1 (by rfl) T.n_range (pa_cons (pv 4) pa_nil)) (blkOk_by (own := [("ahead", 5)]) (N := ["tracks", "cells", "demands", "found", "behind", "ahead"]) (sc := (defScope s_boundaries)) (by decide +kernel)) (fun _ _ _ _ _ => (pg_name (i := 5) sc_boundaries.nd rfl (.inl rfl))) (fun _ _ _ _ _ => (pts_one (pt_cmp (pc_din (hu1 hr) (pe_tup (pa_cons (pv 5) (pa_cons (pv 4) pa_nil))) (pv 2))))) (fun _ _ _ _ _ => (pe_op op_add (pe_ix (r := rIxL K) ix_list (pv 3) (pv 5) (fun _ _ => rfl)) (pe_dget (hu1 hr) (pv 2) (pe_tup (pa_cons (pv 5) (pa_cons (pv 4) pa_nil))) (fun _ _ => rfl))))) pa_nil)) pa_nil)))))
      (pss_one (ps_ret (pe_callTy call_tuple_of (by rfl) T.n_tuple (by decide +kernel) (pa_cons (pv 3) pa_nil))))))), ?_⟩
    refine ⟨_, rfl, _, rfl, v, n, cs, rfl, hc, ok, fun H1 D k1 nD dv => ?_⟩
    obtain ⟨n1, n2, n3, n4⟩ := ok
    refine ⟨by show 1 ≤ sizeLine; decide, fun F nF => ?_⟩
    have k2 := same_upd (o := .lst [V.int 0]) (Same.refl H1) nF
    have nFH : H F = none := by
      cases e : H F with
      | none => rfl
      | some o => rw [k1 _ _ e] at nF; cases nF
    have nFD : D ≠ F := by
      obtain ⟨kvs, h1, _⟩ := dv
      exact ne_of_none h1 nF
    refine ⟨_, rfl, _, _, rfl, rfl, _, _, rfl, ⟨by decide, by decide, by omega, by omega⟩, ?_⟩
    rw [show (((n : Nat) : Int) + 1 - 1).toNat = n by omega]
    refine for_it walk_range (fun i σ' H' => ∃ (x4 x5 : Option V), σ' = [some (nV n), some v, some (.ref D), some (.ref F), x4, x5] ∧ Same H H' ∧ DemV H' D 2000 (demT n cs) ∧ H' F = some (.lst ((bl cs i).map nV))) ⟨none, none, rfl, k1.trans k2, dv.keep k2, upd_same⟩ (fun _ _ _ _ _ => trivial) ?_ ?_
    · rintro i x σ' H2 H3 hi ⟨x4, x5, rfl, k3, dv, eF⟩ ⟨rfl, hx⟩
      have hx : x = nV (i + 1) := by rw [hx]; show V.int (1 + (i : Int)) = _; rw [show 1 + (i : Int) = ((i + 1 : Nat) : Int) by omega]; rfl
      subst hx
      refine ⟨.ref F, rfl, .inl ⟨rfl, _, .inl (.inl eF)⟩, ?_⟩
      refine ⟨_, rfl, ((i + 1 : Nat) : Int), rfl, by omega, by omega, ?_⟩
      rw [Int.toNat_natCast]
      refine fun C nC => lc_range (lo := 0) (n := i + 1) (fun j H' => Same H3 H' ∧ H' C = some (.lst (((List.range j).filterMap (cand cs (bl cs i) (i + 1))).map nV)) ∧ ((List.range j).filterMap (cand cs (bl cs i) (i + 1))).length ≤ j) ⟨same_upd (Same.refl H3) nC, upd_same, Nat.le_refl _⟩ (fun j H4 hj p => ⟨rfl, ?_⟩) (fun H4 p => ?_)
      · obtain ⟨k4, eC, lC⟩ := p
        have ej : V.int (0 + (j : Int)) = nV j := by rw [Int.zero_add]; rfl
        have lb := bl_len cs i
        have gF : ((bl cs i).map nV)[j]? = some (nV ((bl cs i).getD j 0)) := by
          rw [List.getElem?_map, List.getD_eq_getElem?_getD, List.getElem?_eq_getElem (by omega)]; rfl
        have eD : demT n cs (j : Int) ((i + 1 : Nat) : Int) = dem cs j (i + 1) := demT_eq (by omega)
        have rs : (List.range (j + 1)).filterMap (cand cs (bl cs i) (i + 1)) = (List.range j).filterMap (cand cs (bl cs i) (i + 1)) ++ (cand cs (bl cs i) (i + 1) j).toList := by
          rw [List.range_succ, List.filterMap_append]
          cases h : cand cs (bl cs i) (i + 1) j with
          | none => rw [List.filterMap_cons_none h]; rfl
          | some x => rw [List.filterMap_cons_some h]; rfl
        refine ⟨_, rfl, _, rfl, by show 2 ≤ sizeLine; decide, fun t nt => ?_⟩
        have k5 := same_upd (o := .tup [V.int (0 + (j : Int)), nV (i + 1)]) (Same.refl H4) nt
        have et : upd H4 t (.tup [V.int (0 + (j : Int)), nV (i + 1)]) t = some (.tup [nV j, nV (i + 1)]) := by rw [upd_same, ej]
        have dv5 := (dv.keep k4).keep k5
        have g1 := dv5.get et
        rw [eD] at g1
        generalize upd H4 t (.tup [V.int (0 + (j : Int)), nV (i + 1)]) = H5 at k5 dv5 g1
        cases hd : dem cs j (i + 1) with
        | none =>
          rw [hd] at g1
          have ec : cand cs (bl cs i) (i + 1) j = none := by unfold cand; rw [hd]; rfl
          refine ⟨_, rfl, D, _, rfl, g1, _, rfl, k4.trans k5, ?_, ?_⟩
          · rw [rs, ec]; show _ = some (HO.lst ((_ ++ []).map nV)); rw [List.append_nil]; exact k5 _ _ eC
          · rw [rs, ec]; show (_ ++ []).length ≤ _; rw [List.append_nil]; omega
        | some e =>
          rw [hd] at g1
          have ec : cand cs (bl cs i) (i + 1) j = some ((bl cs i).getD j 0 + e) := by unfold cand; rw [hd]; rfl
          refine ⟨_, rfl, D, _, rfl, g1, _, rfl, ?_⟩
          have ka := k4.trans k5
          have eF5 := ka _ _ eF
          refine ⟨_, rfl, _, rfl, F, _, _, _, rfl, rfl, SqL.of eF5, by rw [Int.zero_add]; exact atI_nat gF, _, rfl, _, rfl, _, rfl, by show 2 ≤ sizeLine; decide, fun u nu => ?_⟩
          have k6 := same_upd (o := .tup [V.int (0 + (j : Int)), nV (i + 1)]) (Same.refl H5) nu
          have eu : upd H5 u (.tup [V.int (0 + (j : Int)), nV (i + 1)]) u = some (.tup [nV j, nV (i + 1)]) := by rw [upd_same, ej]
          have g2 := (dv5.keep k6).get eu
          rw [eD, hd] at g2
          generalize upd H5 u (.tup [V.int (0 + (j : Int)), nV (i + 1)]) = H6 at k6 g2
          refine ⟨D, _, rfl, g2, _, _, rfl, rfl, ?_⟩
          have kb := ka.trans k6
          refine ⟨_, k6 _ _ (k5 _ _ eC), by rw [List.length_map]; exact szN (by omega), same_mut kb nC, ?_, ?_⟩
          · rw [upd_same, rs, ec, List.map_append]; rfl
          · rw [rs, ec, List.length_append]; show _ + 1 ≤ _; omega
      · obtain ⟨k4, eC, lC⟩ := p
        obtain ⟨m0, hm0⟩ := cand_ne (cs := cs) (bs := bl cs i) i
        have nCF : F ≠ C := ne_of_none eF nC
        refine ⟨C, ((List.range (i + 1)).filterMap (cand cs (bl cs i) (i + 1))).map (fun x : Nat => (x : Int)), rfl, SqL.of (by rw [eC, List.map_map]; rfl), ?_, fun m hm hM => ?_⟩
        · rw [List.length_map]
          have ⟨g, _⟩ := mx_spec hm0
          exact List.length_pos_of_mem g
        · obtain ⟨v0, hv0, rfl⟩ := List.mem_map.mp hm
          have e0 : mx ((List.range (i + 1)).filterMap (cand cs (bl cs i) (i + 1))) = some v0 := mx_of hv0 fun x hx => by
            have := hM (x : Int) (List.mem_map.mpr ⟨x, hx, rfl⟩)
            omega
          have lb := bl_len cs i
          refine ⟨F, _, _, rfl, rfl, k4 _ _ eF, by rw [List.length_map]; exact szN (by omega), _, _, rfl, same_mut (k3.trans k4) nFH, (dv.keep k4).other nFD, ?_⟩
          rw [upd_same]
          show _ = some (HO.lst ((bl cs i ++ [(mx ((List.range (i + 1)).filterMap (cand cs (bl cs i) (i + 1)))).getD 0]).map nV))
          rw [e0, List.map_append]; rfl
    · rintro σ' H2 ⟨x4, x5, rfl, k3, dv, eF⟩
      refine ⟨_, rfl, F, _, rfl, .inl ⟨SqL.of eF, fun B nB => q _ B ?_ upd_same⟩⟩
      exact k3.trans (same_upd (Same.refl H2) nB)
end
end Vf

set_option Elab.async false
set_option linter.all false
set_option maxRecDepth 100000
set_option maxHeartbeats 4000000
namespace Vf
open PySem PySem.Spec PyProof.Rows L2 TL
theorem ifD {p A B : Prop} [Decidable p] (h : p → A) (g : ¬ p → B) : if decide p = true then A else B := by
  by_cases c : p
  · rw [if_pos (decide_eq_true c)]; exact h c
  · rw [if_neg (by rw [decide_eq_false c]; decide)]; exact g c
theorem eA_le {S : Sty} {z : List Nat} {k : Nat} : eA S z k ≤ z.length := by
  unfold eA
  rw [List.getD_eq_getElem?_getD]
  cases e : (ends S z)[k]? with
  | none => exact Nat.zero_le _
  | some y =>
    show y ≤ z.length
    have hm := List.mem_of_getElem? e
    unfold ends at hm
    rcases List.mem_cons.mp hm with q | q
    · rw [q]; exact Nat.zero_le _
    · rcases List.mem_append.mp q with q | q
      · obtain ⟨r, hr, rfl⟩ := List.mem_map.mp q
        have := places_bd hr; omega
      · rw [List.mem_singleton.mp q]; exact Nat.le_refl _
theorem eA_lt {S : Sty} {z : List Nat} (h0 : 0 < z.length) {i j : Nat} (h : i < j) (hj : j ≤ nP S z + 1) : eA S z i < eA S z j := by
  have lE := ends_len S z
  have li : i < (ends S z).length := by unfold nP at hj; omega
  have lj : j < (ends S z).length := by unfold nP at hj; omega
  have := List.pairwise_iff_getElem.mp (ends_asc S z h0) i j li lj h
  unfold eA
  rw [List.getD_eq_getElem?_getD, List.getD_eq_getElem?_getD, List.getElem?_eq_getElem li, List.getElem?_eq_getElem lj]
  exact this
theorem eA_zero (S : Sty) (z : List Nat) : eA S z 0 = 0 := rfl
theorem eA_end (S : Sty) (z : List Nat) : eA S z (nP S z + 1) = z.length := by
  unfold eA
  rw [List.getD_eq_getElem?_getD, show (ends S z)[nP S z + 1]? = some z.length from ends_last S z]; rfl
theorem kt_new {H : Hp} {p : Addr} {o : HO} (n : H p = none) : ∀ a xs, H a = some (.tup xs) → upd H p o a = some (.tup xs) := fun a xs e => by rw [upd_ne (ne_of_none e n)]; exact e
theorem kt_mut {H : Hp} {D : Addr} {ys zs : List V} (eD : H D = some (.lst ys)) : ∀ a xs, H a = some (.tup xs) → upd H D (.lst zs) a = some (.tup xs) := fun a xs e => by
  rw [upd_ne (fun z => by rw [z, eD] at e; cases e)]; exact e
end Vf

set_option Elab.async false
set_option linter.all false
set_option maxRecDepth 100000
set_option maxHeartbeats 4000000
namespace Vf
open PySem PySem.Spec PyProof.Rows L2 TL
/-! ### strips -/
abbrev Stp := List Nat × List Nat × List (List Int)
def TrV (H : Hp) (x : V) (r : List Int) : Prop := ∃ b, x = .ref b ∧ H b = some (.tup (r.map V.int)) ∧ r.length = 5
theorem TrV.kt {H H' : Hp} {x : V} {r : List Int} (h : TrV H x r) (k : ∀ a xs, H a = some (.tup xs) → H' a = some (.tup xs)) : TrV H' x r := by
  obtain ⟨b, e, h1, h2⟩ := h
  exact ⟨b, e, k _ _ h1, h2⟩
def StpV (H : Hp) (x : V) (s : Stp) : Prop := ∃ b t us, x = .ref b ∧ H b = some (.tup [sV s.1, sV s.2.1, .ref t]) ∧ H t = some (.tup us) ∧ LV (TrV H) us s.2.2
theorem StpV.kt {H H' : Hp} {x : V} {s : Stp} (h : StpV H x s) (k : ∀ a xs, H a = some (.tup xs) → H' a = some (.tup xs)) : StpV H' x s := by
  obtain ⟨b, t, us, e, h1, h2, h3⟩ := h
  exact ⟨b, t, us, e, k _ _ h1, k _ _ h2, h3.mono fun _ _ z => z.kt k⟩
def plainS (zs : List Nat) : Stp := (zs, List.replicate zs.length 32, [])
def blankS (n : Nat) : Stp := plainS (List.replicate n 32)
def shT (l : Int) : List Int → List Int
  | a :: r => (l + a) :: r
  | [] => []
def trsS : Nat → List Stp → List (List Int)
  | _, [] => []
  | l, s :: r => s.2.2.map (shT (l : Int)) ++ trsS (l + s.1.length) r
def jnS (ss : List Stp) : Stp := (ss.flatMap (·.1), ss.flatMap (·.2.1), trsS 0 ss)
/-- the signs of the piece from the k-th parting to the m-th (0: to the end) -/
def pcN (S : Sty) (z : List Nat) (k m : Nat) : List Nat := pieceN S z (eA S z k) (eA S z (if m = 0 then nP S z + 1 else m))
theorem pcN_len {S : Sty} (ok : StyOk S) (z : List Nat) (k m : Nat) : (pcN S z k m).length = pcW S z k m := pieceN_len ok _ _ _
def pieceS (S : Sty) (z : List Nat) (q k m : Nat) : Stp := if q = 0 then plainS (pcN S z k m) else (pcN S z k m, List.replicate (pcN S z k m).length 35, [[0, ((pcN S z k m).length : Int), (q : Int), (k : Int), (m : Int)]])
theorem blk_mk : ((" " : Str)) = mkS [32] := by decide +kernel
theorem cvr_mk : (("#" : Str)) = mkS [35] := by decide +kernel
theorem trs_take {ss : List Stp} : ∀ (l n : Nat) (s : Stp), ss[n]? = some s → trsS l (ss.take (n + 1)) = trsS l (ss.take n) ++ s.2.2.map (shT ((l + ((ss.take n).flatMap (·.1)).length : Nat) : Int)) := by
  induction ss with
  | nil => intro l n s h; cases h
  | cons a ss ih =>
    intro l n s h
    cases n with
    | zero =>
      have h : a = s := Option.some.inj h
      subst h
      show a.2.2.map (shT (l : Int)) ++ [] = [] ++ a.2.2.map _
      rw [List.append_nil, List.nil_append]; rfl
    | succ n =>
      have h : ss[n]? = some s := h
      show a.2.2.map (shT (l : Int)) ++ trsS (l + a.1.length) (ss.take (n + 1)) = (a.2.2.map (shT (l : Int)) ++ trsS (l + a.1.length) (ss.take n)) ++ _
      rw [ih _ _ _ h, List.append_assoc, List.take_succ_cons, List.flatMap_cons, List.length_append, Nat.add_assoc]
theorem eA_mid {S : Sty} {z : List Nat} {k : Nat} (h0 : 0 < k) (h : k ≤ nP S z) : ∃ r, (places S z)[k - 1]? = some r ∧ r.1 = eA S z k := by
  have hk : k - 1 < (places S z).length := by unfold nP at h; omega
  have e : (places S z)[k - 1]? = some (places S z)[k - 1] := List.getElem?_eq_getElem hk
  refine ⟨_, e, ?_⟩
  have := ends_part e
  rw [show k - 1 + 1 = k by omega] at this
  unfold eA
  rw [List.getD_eq_getElem?_getD, this]; rfl
theorem mul_ok {z : Str} {n : Int} (h2 : 2 ≤ n) (hn : n ≤ 1000) (hz : z.length ≤ 10000) : MulOk z n := by
  refine ⟨?_, fun _ _ => ?_, fun _ _ => ?_⟩
  · rw [decide_eq_false (by omega), decide_eq_false (by omega)]; rfl
  · have h3 : (9000000 : Int) ≤ (2 ^ 63 - 1) / n := (Int.le_ediv_iff_mul_le (by omega)).mpr (by omega)
    omega
  · have e : n.toNat ≤ 1000 := by omega
    have h4 : z.length * n.toNat ≤ 10000 * 1000 := Nat.mul_le_mul hz e
    show decide (sizeLine < z.length * n.toNat) = false
    exact decide_eq_false (Nat.not_lt.mpr (Nat.le_trans h4 (by decide)))
theorem mul_okN {z : Str} {n : Nat} (hn : n ≤ 1000) (hz : z.length ≤ 10000) : MulOk z (n : Int) := by
  by_cases h : 2 ≤ n
  · exact mul_ok (by omega) (by omega) hz
  · refine ⟨?_, fun h1 h2 => ?_, fun h1 h2 => ?_⟩
    · rw [decide_eq_false (by omega), decide_eq_false (by omega)]; rfl
    · have e : n = 1 := by omega
      subst e
      cases h2
    · have e : n = 1 := by omega
      subst e
      cases h2
theorem mul_ok1 {z : Str} {n : Nat} (hn : n ≤ 20000) (hz : z.length ≤ 100) : MulOk z (n : Int) := by
  by_cases h : 2 ≤ n
  · refine ⟨?_, fun _ _ => ?_, fun _ _ => ?_⟩
    · rw [decide_eq_false (by omega), decide_eq_false (by omega)]; rfl
    · have h3 : (900000 : Int) ≤ (2 ^ 63 - 1) / (n : Int) := (Int.le_ediv_iff_mul_le (by omega)).mpr (by omega)
      omega
    · have h4 : z.length * (n : Int).toNat ≤ 100 * 20000 := Nat.mul_le_mul hz (by omega)
      show decide (sizeLine < z.length * (n : Int).toNat) = false
      exact decide_eq_false (Nat.not_lt.mpr (Nat.le_trans h4 (by decide)))
  · exact mul_okN (by omega) (by omega)
theorem foldl_reps (zs : List Nat) : ∀ (n : Nat) (acc : Array Nat), (((List.replicate n zs.toArray).foldl (· ++ ·) acc)).toList = acc.toList ++ (List.replicate n zs).flatten
  | 0, acc => by rw [List.replicate_zero, List.replicate_zero, List.flatten_nil, List.append_nil]; rfl
  | n + 1, acc => by
    rw [List.replicate_succ, List.replicate_succ, List.foldl_cons, foldl_reps zs n, List.flatten_cons, Array.toList_append, List.append_assoc]
theorem mul_mk (zs : List Nat) (hz : zs ≠ []) (n : Nat) : Txt.mul (mkS zs) (n : Int) = mkS (List.replicate n zs).flatten := by
  unfold Txt.mul
  by_cases h0 : n = 0
  · subst h0
    rw [if_pos (by decide), List.replicate_zero, List.flatten_nil]
    rfl
  · rw [if_neg (by omega)]
    have hl : ((mkS zs).length == 0) = false := by
      rw [mkS_len]
      refine beq_eq_false_iff_ne.mpr fun e => hz ?_
      exact List.eq_nil_of_length_eq_zero e
    rw [hl, Bool.or_false]
    by_cases h1 : n = 1
    · subst h1
      rw [if_pos (show (((1 : Nat) : Int) == 1) = true from rfl)]
      show mkS zs = mkS (zs ++ [])
      rw [List.append_nil]
    · rw [if_neg (fun q => h1 (by have := beq_iff_eq.mp q; omega)), Int.toNat_natCast]
      have e := foldl_reps zs n #[]
      have e2 : ((List.replicate n (mkS zs).cps).foldl (· ++ ·) #[]).toList = (List.replicate n zs).flatten := e
      show (⟨_⟩ : Str) = ⟨_⟩
      congr 1
      rw [← e2, Array.toArray_toList]
theorem flat_one1 (c n : Nat) : (List.replicate n [c]).flatten = List.replicate n c := by
  induction n with
  | zero => rfl
  | succ n ih => rw [List.replicate_succ, List.flatten_cons, ih, List.replicate_succ]; rfl
theorem mul_sign (c n : Nat) : Txt.mul (mkS [c]) (n : Int) = mkS (List.replicate n c) := by
  rw [mul_mk [c] (by simp) n, flat_one1]
theorem ek_at {S : Sty} {z : List Nat} {k : Nat} (h1 : 0 < k) (h2 : k ≤ nP S z) : atI ((places S z).map fun r : Nat × Nat => natV r.1) ((k : Int) - 1) = some (nV (eA S z k)) := by
  obtain ⟨r, e1, e2⟩ := eA_mid h1 h2
  rw [show (k : Int) - 1 = ((k - 1 : Nat) : Int) by omega]
  refine atI_nat ?_
  rw [List.getElem?_map, e1, ← e2]; rfl
def tFst : TE := fun σ H Q => ∃ (S : Sty) (z : List Nat) (k : Nat) (D : Addr), σ[2]? = some (some (nV k)) ∧ σ[4]? = some (some (.ref D)) ∧ H D = some (.lst ((places S z).map fun r : Nat × Nat => natV r.1)) ∧ k ≤ nP S z ∧ Q (nV (eA S z k)) H
theorem fst_ok {K : PySem.W.Frag} {σ : L2.St} {H : Hp} {Q : VK} {S : Sty} {z : List Nat} {k : Nat} {D : Addr} (e2 : σ[2]? = some (some (nV k))) (e4 : σ[4]? = some (some (.ref D))) (eD : H D = some (.lst ((places S z).map fun r : Nat × Nat => natV r.1))) (hk : k ≤ nP S z) (q : Q (nV (eA S z k)) H) :
    tIf (tTest (tOp (rI0 fun i j => V.bl (decide (j < i))) (tVar 2) (tC (V.int 0)))) (tOp (rIxL K) (tVar 4) (tOp (rI0 fun i j => V.int (i - j)) (tVar 2) (tC (V.int 1)))) (tC (V.int 0)) σ H Q := by
  refine ⟨_, e2, _, _, rfl, rfl, _, rfl, ?_⟩
  refine ifD (fun c => ?_) (fun c => ?_)
  · have c : (0 : Int) < (k : Int) := c
    exact ⟨_, e4, _, e2, _, _, rfl, rfl, D, _, _, _, rfl, rfl, SqL.of eD, ek_at (by omega) hk, q⟩
  · have c : ¬ (0 : Int) < (k : Int) := c
    have : k = 0 := by omega
    subst this
    exact q
def tLst : TE := fun σ H Q => ∃ (S : Sty) (z : List Nat) (m : Nat) (D : Addr), σ[1]? = some (some (sV z)) ∧ σ[3]? = some (some (nV m)) ∧ σ[4]? = some (some (.ref D)) ∧ H D = some (.lst ((places S z).map fun r : Nat × Nat => natV r.1)) ∧ (mkS z).length ≤ sizeLine ∧ m ≤ nP S z ∧ Q (nV (eA S z (if m = 0 then nP S z + 1 else m))) H
theorem lst_ok {K : PySem.W.Frag} {σ : L2.St} {H : Hp} {Q : VK} {S : Sty} {z : List Nat} {m : Nat} {D : Addr} (e1 : σ[1]? = some (some (sV z))) (e3 : σ[3]? = some (some (nV m))) (e4 : σ[4]? = some (some (.ref D))) (eD : H D = some (.lst ((places S z).map fun r : Nat × Nat => natV r.1))) (hb : (mkS z).length ≤ sizeLine) (hm : m ≤ nP S z) (q : Q (nV (eA S z (if m = 0 then nP S z + 1 else m))) H) :
    tIf (tTest (tOp (rI0 fun i j => V.bl (decide (j < i))) (tVar 3) (tC (V.int 0)))) (tOp (rIxL K) (tVar 4) (tOp (rI0 fun i j => V.int (i - j)) (tVar 3) (tC (V.int 1)))) (tCB (fun xs H Q => ∃ z, xs = [V.str z] ∧ z.length ≤ sizeLine ∧ Q (V.int (z.length : Nat)) H) (tCons (tVar 1) tNil)) σ H Q := by
  refine ⟨_, e3, _, _, rfl, rfl, _, rfl, ?_⟩
  refine ifD (fun c => ?_) (fun c => ?_)
  · have c : (0 : Int) < (m : Int) := c
    rw [if_neg (show ¬ m = 0 by omega)] at q
    exact ⟨_, e4, _, e3, _, _, rfl, rfl, D, _, _, _, rfl, rfl, SqL.of eD, ek_at (by omega) hm, q⟩
  · have c : ¬ (0 : Int) < (m : Int) := c
    rw [if_pos (show m = 0 by omega), eA_end] at q
    refine ⟨_, e1, _, rfl, hb, ?_⟩
    rw [mkS_len]; exact q
section
variable {P : Program} {w : World} {K : PySem.W.Frag} {mg : Str → Option Value} {base : Heap}
def spSignsB : Sp := fun vs H Q _ => ∃ (v : V) (S : Sty) (z : List Nat) (k m : Nat), vs = [v, sV z, nV k, nV m] ∧ StyV H v S ∧ StyOk S ∧ WdOk z ∧ 0 < z.length ∧ k ≤ nP S z ∧ m ≤ nP S z ∧ (m = 0 ∨ k < m) ∧
  ∀ H', Same H H' → Q (sV (pcN S z k m)) H'
theorem ok_signsB (T : Txt K mg) : FnOk P w K mg base CX0 5 T.a_signs_between T.d_signs_between ["style", "word", "first", "last"] spSignsB := by
  have G_parting_places : FnOk P w K mg base CX0 3 T.a_parting_places T.d_parting_places ["style", "word"] spPlacesOf := ok_parting_places T
  have G_signs_of : FnOk P w K mg base CX0 4 T.a_signs_of T.d_signs_of ["style", "word", "first", "behind"] spSignsOf := ok_signs_of T
  refine T.D_signs_between.F.ok sc_signs_between (fun vs H Q E h => ?_) (fun cdv A outer s H vs Q E hr h => ?_)
  · obtain ⟨_, _, _, _, _, rfl, _⟩ := h
    rfl
  · obtain ⟨v, S, z, k, m, rfl, sv, st, wd, h0, hk, hm, hkm, q⟩ := h
    have hb : (mkS z).length ≤ sizeLine := by rw [mkS_len]; exact big_ok (by have := wd.len; omega)
    refine ⟨_, (pss_cons (ps_set (i := 4) sc_signs_between.nd rfl (.inl rfl) (pe_call G_parting_places (hr.mono (by decide)) (by rfl) T.D_parting_places.G T.D_parting_places.F.kp T.D_parting_places.B .nil pass0 (pa_cons (pv 0) (pa_cons (pv 1) pa_nil))))
      (pss_one (ps_ret (pe_call G_signs_of (hr.mono (by decide)) (by rfl) T.D_signs_of.G T.D_signs_of.F.kp T.D_signs_of.B .nil pass0 (pa_cons (pv 0) (pa_cons (pv 1) (pa_cons (PE.to (t' := tFst) (pe_ifExp (pt_cmpR op_gt (pv 2) pe_int (nomark _)) (pe_ix ix_list (pv 4) (pe_op op_sub (pv 2) pe_int) (fun _ _ => rfl)) pe_int) (fun σ H Q h => by
      obtain ⟨S, z, k, D, e2, e4, eD, hk, q⟩ := h
      exact fst_ok e2 e4 eD hk q)) (pa_cons (PE.to (t' := tLst) (pe_ifExp (pt_cmpR op_gt (pv 3) pe_int (nomark _)) (pe_ix ix_list (pv 4) (pe_op op_sub (pv 3) pe_int) (fun _ _ => rfl)) (pe_callB call_len_str (by rfl) T.n_len PySem.boot_len (pa_cons (pv 1) pa_nil))) (fun σ H Q h => by
      obtain ⟨S, z, m, D, e1, e3, e4, eD, hb, hm, q⟩ := h
      exact lst_ok e1 e3 e4 eD hb hm q)) pa_nil)))))))), ?_⟩
    refine ⟨_, rfl, _, rfl, v, S, z, rfl, sv, st, wd, fun H1 D k1 nD eD => ?_⟩
    refine ⟨_, rfl, _, rfl, S, z, k, D, rfl, rfl, eD, hk, S, z, m, D, rfl, rfl, rfl, eD, hb, hm, ?_⟩
    have h1 : eA S z k ≤ eA S z (if m = 0 then nP S z + 1 else m) := by
      by_cases c : m = 0
      · rw [if_pos c]; exact Nat.le_of_lt (eA_lt h0 (by omega) (Nat.le_refl _))
      · rw [if_neg c]; exact Nat.le_of_lt (eA_lt h0 (by omega) (by omega))
    exact ⟨v, S, z, eA S z k, eA S z (if m = 0 then nP S z + 1 else m), rfl, sv.mono (same_tup k1), st, wd, h1, eA_le, fun H2 k2 => q H2 (k1.trans k2)⟩
def spPlain : Sp := fun vs H Q _ => ∃ (zs : List Nat), vs = [sV zs] ∧ zs.length ≤ 20000 ∧ ∀ H' x, Same H H' → StpV H' x (plainS zs) → Q x H'
theorem ok_plain (T : Txt K mg) : FnOk P w K mg base CX0 1 T.a_plain_strip T.d_plain_strip ["signs"] spPlain := by
  refine T.D_plain_strip.F.ok sc_plain_strip (fun vs H Q E h => ?_) (fun cdv A outer s H vs Q E hr h => ?_)
  · obtain ⟨_, rfl, _⟩ := h
    rfl
  · obtain ⟨zs, rfl, hz, q⟩ := h
    refine ⟨_, (pss_one (ps_ret (pe_tup (pa_cons (pv 0) (pa_cons (pe_op op_mul_str (pe_glob (v := .str " ") (by rfl) T.m_BLANK ⟨_, rfl⟩) (pe_callB call_len_str (by rfl) T.n_len PySem.boot_len (pa_cons (pv 0) pa_nil))) (pa_cons (pe_tup pa_nil) pa_nil)))))), ?_⟩
    refine ⟨_, rfl, _, rfl, _, rfl, by rw [mkS_len]; exact big_ok (by omega), " ", ((mkS zs).length : Int), rfl, rfl, by rw [mkS_len]; exact mul_ok1 hz (by decide), ?_⟩
    rw [blk_mk, mkS_len, mul_sign]
    refine ⟨by show 0 ≤ sizeLine; decide, fun t nt => ⟨by show 3 ≤ sizeLine; decide, fun b nb => ?_⟩⟩
    exact q _ (.ref b) (same_upd (same_upd (Same.refl H) nt) nb) ⟨b, t, [], rfl, upd_same, by rw [upd_ne (ne_of_none upd_same nb)]; exact upd_same, LV.nil⟩
def spBlank : Sp := fun vs H Q _ => ∃ (n : Nat), vs = [nV n] ∧ n ≤ 20000 ∧ ∀ H' x, Same H H' → StpV H' x (blankS n) → Q x H'
theorem ok_blank (T : Txt K mg) : FnOk P w K mg base CX0 2 T.a_blank_strip T.d_blank_strip ["width"] spBlank := by
  have G_plain_strip : FnOk P w K mg base CX0 1 T.a_plain_strip T.d_plain_strip ["signs"] spPlain := ok_plain T
  refine T.D_blank_strip.F.ok sc_blank_strip (fun vs H Q E h => ?_) (fun cdv A outer s H vs Q E hr h => ?_)
  · obtain ⟨_, rfl, _⟩ := h
    rfl
  · obtain ⟨n, rfl, hn, q⟩ := h
    refine ⟨_, (pss_one (ps_ret (pe_call G_plain_strip (hr.mono (by decide)) (by rfl) T.D_plain_strip.G T.D_plain_strip.F.kp T.D_plain_strip.B .nil pass0 (pa_cons (pe_op op_mul_str (pe_glob (v := .str " ") (by rfl) T.m_BLANK ⟨_, rfl⟩) (pv 0)) pa_nil)))), ?_⟩
    refine ⟨_, rfl, " ", (n : Int), rfl, rfl, mul_ok1 hn (by decide), ?_⟩
    rw [blk_mk, mul_sign]
    exact ⟨List.replicate n 32, rfl, by rw [List.length_replicate]; exact hn, q⟩
def spPiece : Sp := fun vs H Q _ => ∃ (v : V) (S : Sty) (z : List Nat) (s k m : Nat), vs = [v, sV z, nV s, nV k, nV m] ∧ StyV H v S ∧ StyOk S ∧ WdOk z ∧ 0 < z.length ∧ k ≤ nP S z ∧ m ≤ nP S z ∧ (m = 0 ∨ k < m) ∧
  ∀ H' x, Same H H' → StpV H' x (pieceS S z s k m) → Q x H'
theorem ok_piece (T : Txt K mg) : FnOk P w K mg base CX0 6 T.a_piece_strip T.d_piece_strip ["style", "word", "struck", "first", "last"] spPiece := by
  have G_signs_between : FnOk P w K mg base CX0 5 T.a_signs_between T.d_signs_between ["style", "word", "first", "last"] spSignsB := ok_signsB T
  have G_plain_strip : FnOk P w K mg base CX0 1 T.a_plain_strip T.d_plain_strip ["signs"] spPlain := ok_plain T
  refine T.D_piece_strip.F.ok sc_piece_strip (fun vs H Q E h => ?_) (fun cdv A outer s H vs Q E hr h => ?_)
  · obtain ⟨_, _, _, _, _, _, rfl, _⟩ := h
    rfl
  · obtain ⟨v, S, z, s, k, m, rfl, sv, st, wd, h0, hk, hm, hkm, q⟩ := h
    have l100 : (pcN S z k m).length ≤ 100 := pieceW_small st _ _ wd eA_le
    have hb : (mkS (pcN S z k m)).length ≤ sizeLine := by rw [mkS_len]; exact big_ok (by omega)
    refine ⟨_, (pss_cons (ps_set (i := 5) sc_piece_strip.nd rfl (.inl rfl) (pe_call G_signs_between (hr.mono (by decide)) (by rfl) T.D_signs_between.G T.D_signs_between.F.kp T.D_signs_between.B .nil pass0 (pa_cons (pv 0) (pa_cons (pv 1) (pa_cons (pv 3) (pa_cons (pv 4) pa_nil))))))
      (pss_cons (ps_if (pt_cmpR op_eq (pv 2) pe_int (nomark _)) (pss_one (ps_ret (pe_call G_plain_strip (hr.mono (by decide)) (by rfl) T.D_plain_strip.G T.D_plain_strip.F.kp T.D_plain_strip.B .nil pass0 (pa_cons (pv 5) pa_nil)))) pss_nil)
      (pss_one (ps_ret (pe_tup (pa_cons (pv 5) (pa_cons (pe_op op_mul_str (pe_glob (v := .str "#") (by rfl) T.m_COVER ⟨_, rfl⟩) (pe_callB call_len_str (by rfl) T.n_len PySem.boot_len (pa_cons (pv 5) pa_nil))) (pa_cons (pe_tup (pa_cons (pe_tup (pa_cons pe_int (pa_cons (pe_callB call_len_str (by rfl) T.n_len PySem.boot_len (pa_cons (pv 5) pa_nil)) (pa_cons (pv 2) (pa_cons (pv 3) (pa_cons (pv 4) pa_nil)))))) pa_nil)) pa_nil)))))))), ?_⟩
    refine ⟨_, rfl, _, rfl, _, rfl, _, rfl, v, S, z, k, m, rfl, sv, st, wd, h0, hk, hm, hkm, fun H1 k1 => ?_⟩
    refine ⟨_, rfl, rfl, _, rfl, ?_⟩
    unfold pieceS at q
    refine ifD (fun c => ?_) (fun c => ?_)
    · have c : s = 0 := Int.ofNat.inj (V.int.inj c)
      rw [if_pos c] at q
      exact ⟨_, rfl, pcN S z k m, rfl, by omega, fun H2 x k2 hx => q H2 x (k1.trans k2) hx⟩
    · have c : s ≠ 0 := fun z => c (by rw [z]; rfl)
      rw [if_neg c] at q
      refine ⟨_, rfl, _, rfl, _, rfl, hb, "#", ((mkS (pcN S z k m)).length : Int), rfl, rfl, by rw [mkS_len]; exact mul_okN (by omega) (by decide), ?_⟩
      rw [cvr_mk, mkS_len, mul_sign]
      refine ⟨_, rfl, _, rfl, hb, _, rfl, _, rfl, _, rfl, by show 5 ≤ sizeLine; decide, fun a na => ?_⟩
      rw [mkS_len]
      have k2 := same_upd (o := .tup [V.int 0, V.int ((pcN S z k m).length : Nat), nV s, nV k, nV m]) (Same.refl H1) na
      have ea : upd H1 a (.tup [V.int 0, V.int ((pcN S z k m).length : Nat), nV s, nV k, nV m]) a = some (.tup (([0, ((pcN S z k m).length : Int), (s : Int), (k : Int), (m : Int)] : List Int).map V.int)) := upd_same
      generalize upd H1 a (.tup [V.int 0, V.int ((pcN S z k m).length : Nat), nV s, nV k, nV m]) = H2 at k2 ea
      refine ⟨by show 1 ≤ sizeLine; decide, fun t nt => ⟨by show 3 ≤ sizeLine; decide, fun b nb => ?_⟩⟩
      have k3 := same_upd (o := .tup [V.ref a]) (Same.refl H2) nt
      have et : upd H2 t (.tup [V.ref a]) t = some (.tup [V.ref a]) := upd_same
      generalize upd H2 t (.tup [V.ref a]) = H3 at k3 et nb
      have tt := kt_new (o := .tup [sV (pcN S z k m), sV (List.replicate (pcN S z k m).length 35), V.ref t]) nb
      exact q _ (.ref b) (same_upd ((k1.trans k2).trans k3) nb) ⟨b, t, _, rfl, upd_same, tt _ _ et, LV.snoc LV.nil ⟨a, rfl, tt _ _ (k3 _ _ ea), rfl⟩⟩
end
end Vf

set_option Elab.async false
set_option linter.all false
set_option maxRecDepth 100000
set_option maxHeartbeats 4000000
namespace Vf
open PySem PySem.Spec PyProof.Rows L2 TL
theorem trs_app : ∀ (a b : List Stp) (l : Nat), trsS l (a ++ b) = trsS l a ++ trsS (l + (a.flatMap (·.1)).length) b
  | [], b, l => rfl
  | s :: a, b, l => by
    show s.2.2.map (shT (l : Int)) ++ trsS (l + s.1.length) (a ++ b) = (s.2.2.map (shT (l : Int)) ++ trsS (l + s.1.length) a) ++ _
    rw [trs_app a b, List.append_assoc, List.flatMap_cons, List.length_append, Nat.add_assoc]
theorem trs_pre (ss : List Stp) (n : Nat) : (trsS 0 (ss.take n)).length ≤ (trsS 0 ss).length := by
  have h := trs_app (ss.take n) (ss.drop n) 0
  rw [List.take_append_drop] at h
  rw [h, List.length_append]
  exact Nat.le_add_right _ _
theorem flat_pre {α β : Type} (f : α → List β) (ss : List α) (n : Nat) : ((ss.take n).flatMap f).length ≤ (ss.flatMap f).length := by
  have h : (ss.take n).flatMap f ++ (ss.drop n).flatMap f = ss.flatMap f := by rw [← List.flatMap_append, List.take_append_drop]
  rw [← h, List.length_append]
  exact Nat.le_add_right _ _
theorem fl_one {α β : Type} (f : α → List β) {ss : List α} {n : Nat} {s : α} (h : ss[n]? = some s) : (ss.take (n + 1)).flatMap f = (ss.take n).flatMap f ++ f s := by
  rw [show ss.take (n + 1) = ss.take n ++ [s] by rw [List.take_succ, h]; rfl, List.flatMap_append, List.flatMap_cons, List.flatMap_nil, List.append_nil]
theorem flat_le {α β : Type} (f : α → List β) {ss : List α} {n : Nat} {s : α} (h : ss[n]? = some s) : (f s).length ≤ (ss.flatMap f).length := by
  have h1 := flat_pre f ss (n + 1)
  rw [fl_one f h, List.length_append] at h1
  omega
structure JnOk (ss : List Stp) : Prop where
  n : ss.length ≤ 1000
  a : (jnS ss).1.length ≤ 90000
  b : (jnS ss).2.1.length ≤ 90000
  c : (jnS ss).2.2.length ≤ 40000
section
variable {P : Program} {w : World} {K : PySem.W.Frag} {mg : Str → Option Value} {base : Heap}
def spJoined : Sp := fun vs H Q _ => ∃ (L : Addr) (us : List V) (ss : List Stp), vs = [.ref L] ∧ H L = some (.lst us) ∧ LV (StpV H) us ss ∧ JnOk ss ∧ ∀ H' x, Same H H' → StpV H' x (jnS ss) → Q x H'
theorem ok_joined (T : Txt K mg) : FnOk P w K mg base CX0 1 T.a_joined T.d_joined ["strips"] spJoined := by
  refine T.D_joined.F.ok sc_joined (fun vs H Q E h => ?_) (fun cdv A outer s H vs Q E hr h => ?_)
  · obtain ⟨_, _, _, rfl, _⟩ := h
    rfl
  · obtain ⟨L, us, ss, rfl, eL, lv, jk, q⟩ := h
    have ln := jk.n
    have la := jk.a
    have lb := jk.b
    have lc := jk.c
    have lus := lv.1
    refine ⟨_, (pss_cons (ps_set (i := 1) sc_joined.nd rfl (.inl rfl) (pe_lst pa_nil))
      (pss_cons (ps_set (i := 2) sc_joined.nd rfl (.inr rfl) pe_int)
      (pss_cons (ps_for PassesOwn.never rfl (pi_list (pv 0)) (pg_tup (by rfl) (pgs_cons (pg_name (i := 3) sc_joined.nd rfl (.inl rfl)) (pgs_cons (pg_name (i := 4) sc_joined.nd rfl (.inl rfl)) (pgs_cons (pg_name (i := 5) sc_joined.nd rfl (.inl rfl)) pgs_nil)))) (pss_cons (ps_expr (pe_bm PySem.F.plainAttrs_list PySem.F.slot_list_extend PySem.F.type_list_extend mt_extend (pv 1) (pa_cons (pe_lc (own := [("at", 6), ("width", 7), ("struck", 8), ("first", 9), ("last", 10)]) (g := (gTup K 5 (gCons (gName 6) (gCons (gName 7) (gCons (gName 8) (gCons (gName 9) (gCons (gName 10) gNil))))))) (tt := tYes) rfl sc_joined.nd (pi_tup (pv 5)) (blkOk_by (own := [("at", 6), ("width", 7), ("struck", 8), ("first", 9), ("last", 10)]) (N := ["strips", "traces", "left", "signs", "_", "trace", "at", "width", "struck", "first", "last", "strip"]) (sc := (defScope s_joined)) (by decide +kernel)) (fun _ _ _ _ _ => (pg_tup (by rfl) (pgs_cons (pg_name (i := 6) sc_joined.nd rfl (.inl rfl)) (pgs_cons (pg_name (i := 7) sc_joined.nd rfl (.inl rfl)) (pgs_cons (pg_name (i := 8) sc_joined.nd rfl (.inl rfl)) (pgs_cons (pg_name (i := 9) sc_joined.nd rfl (.inl rfl)) (pgs_cons (pg_name (i := 10) sc_joined.nd rfl (.inl rfl)) pgs_nil))))))) (fun _ _ _ _ _ => pts_nil) (fun _ _ _ _ _ => (pe_tup (pa_cons (pe_op op_add (pv 2) (pv 6)) (pa_cons (pv 7) (pa_cons (pv 8) (pa_cons (pv 9) (pa_cons (pv 10) pa_nil)))))))) pa_nil)))
      (pss_one (ps_aug (i := 2) sc_joined.nd rfl (.inr rfl) (pe_callB call_len_str (by rfl) T.n_len PySem.boot_len (pa_cons (pv 3) pa_nil)) ip_add))))
      (pss_one (ps_ret (pe_tup (pa_cons (pe_join pe_str (pe_lc (own := [("strip", 11)]) (g := gName 11) (tt := tYes) rfl sc_joined.nd (pi_list (pv 0)) (blkOk_by (own := [("strip", 11)]) (N := ["strips", "traces", "left", "signs", "_", "trace", "at", "width", "struck", "first", "last", "strip"]) (sc := (defScope s_joined)) (by decide +kernel)) (fun _ _ _ _ _ => (pg_name (i := 11) sc_joined.nd rfl (.inl rfl))) (fun _ _ _ _ _ => pts_nil) (fun _ _ _ _ _ => (pe_ix (r := rIxT K) ix_tup (pv 11) pe_int (fun _ _ => rfl))))) (pa_cons (pe_join pe_str (pe_lc (own := [("strip", 11)]) (g := gName 11) (tt := tYes) rfl sc_joined.nd (pi_list (pv 0)) (blkOk_by (own := [("strip", 11)]) (N := ["strips", "traces", "left", "signs", "_", "trace", "at", "width", "struck", "first", "last", "strip"]) (sc := (defScope s_joined)) (by decide +kernel)) (fun _ _ _ _ _ => (pg_name (i := 11) sc_joined.nd rfl (.inl rfl))) (fun _ _ _ _ _ => pts_nil) (fun _ _ _ _ _ => (pe_ix (r := rIxT K) ix_tup (pv 11) pe_int (fun _ _ => rfl))))) (pa_cons (pe_callTy call_tuple_of (by rfl) T.n_tuple (by decide +kernel) (pa_cons (pv 1) pa_nil)) pa_nil))))))))), ?_⟩
    refine ⟨by show 0 ≤ sizeLine; decide, fun D nD => ?_⟩
    have k1 := same_upd (o := .lst []) (Same.refl H) nD
    have eD : upd H D (.lst []) D = some (.lst []) := upd_same
    generalize upd H D (.lst []) = H1 at k1 eD
    refine ⟨_, rfl, L, rfl, ⟨_, SqL.of (k1 _ _ eL)⟩, ?_⟩
    refine for_it (walk_list (K := K) (a := L) (xs := us)) (fun n σ' H' => ∃ (x3 x4 x5 x6 x7 x8 x9 x10 x11 : Option V) (zs : List V), σ' = [some (.ref L), some (.ref D), some (nV ((ss.take n).flatMap (·.1)).length), x3, x4, x5, x6, x7, x8, x9, x10, x11] ∧ Same H H' ∧ H' D = some (.lst zs) ∧ LV (TrV H') zs (trsS 0 (ss.take n))) ⟨_, _, _, _, _, _, _, _, _, [], rfl, k1, eD, LV.nil⟩ ?_ ?_ ?_
    · rintro i σ1 H' _ ⟨_, _, _, _, _, _, _, _, _, _, _, k, _⟩
      exact SqL.of (k _ _ eL)
    · rintro n x σ1 Ha H2 hn ⟨x3, x4, x5, x6, x7, x8, x9, x10, x11, zs, rfl, k2, eD2, lz⟩ ⟨rfl, hx⟩
      obtain ⟨st, est, b, t, ts, rfl, eb, et, lt⟩ := lv.at hx
      have lz2 := lz.1
      have p1 := trs_pre ss (n + 1)
      rw [trs_take 0 n st est, List.length_append, List.length_map] at p1
      have p2 := flat_le (·.1) est
      have lc : (trsS 0 ss).length ≤ 40000 := lc
      have la' : (ss.flatMap (·.1)).length ≤ 90000 := la
      have ltl := lt.1
      have p2 : st.1.length ≤ (ss.flatMap (·.1)).length := p2
      have hb : (mkS st.1).length ≤ sizeLine := by rw [mkS_len]; exact big_ok (by omega)
      refine ⟨b, _, rfl, SqT.of (k2 _ _ eb), rfl, _, _, rfl, _, _, rfl, _, _, rfl, rfl, ?_⟩
      refine ⟨.ref D, rfl, .inl ⟨rfl, _, .inl (.inl eD2)⟩, ?_⟩
      refine ⟨_, rfl, t, rfl, ⟨_, SqT.of (k2 _ _ et)⟩, fun C nC => ?_⟩
      have nCD : D ≠ C := ne_of_none eD2 nC
      refine lc_it (walk_tup (K := K) (a := t) (xs := ts)) (fun u H' => ∃ ws, Same H2 H' ∧ H' C = some (.lst ws) ∧ LV (TrV H') ws ((st.2.2.take u).map (shT ((((ss.take n).flatMap (·.1)).length : Nat) : Int)))) ⟨[], same_upd (Same.refl H2) nC, upd_same, LV.nil⟩ ?_ ?_ ?_
      · rintro u H' _ ⟨_, k, _⟩
        exact SqT.of ((k2.trans k) _ _ et)
      · rintro u y Hb H3 hu ⟨ws, k3, eC, lw⟩ ⟨rfl, hy⟩
        obtain ⟨r, er, c, rfl, ec, l5⟩ := lt.at hy
        obtain ⟨a1, a2, a3, a4, a5, rfl⟩ : ∃ a1 a2 a3 a4 a5, r = [a1, a2, a3, a4, a5] := by
          match r, l5 with
          | [a1, a2, a3, a4, a5], _ => exact ⟨_, _, _, _, _, rfl⟩
        have ec : H c = some (.tup [V.int a1, .int a2, .int a3, .int a4, .int a5]) := ec
        have lwl := lw.1
        rw [List.length_map, List.length_take] at lwl
        refine ⟨c, _, rfl, SqT.of ((k2.trans k3) _ _ ec), rfl, .int a1, [.int a2, .int a3, .int a4, .int a5], rfl, .int a2, [.int a3, .int a4, .int a5], rfl, .int a3, [.int a4, .int a5], rfl, .int a4, [.int a5], rfl, .int a5, [], rfl, rfl, ?_⟩
        refine ⟨by kernel_rfl, ?_⟩
        refine ⟨nV ((ss.take n).flatMap (·.1)).length, by kernel_rfl, .int a1, by kernel_rfl, _, _, rfl, rfl, .int a2, by kernel_rfl, .int a3, by kernel_rfl, .int a4, by kernel_rfl, .int a5, by kernel_rfl, by show 5 ≤ sizeLine; decide, fun p np => ?_⟩
        have k4 := same_upd (o := .tup [V.int (((((ss.take n).flatMap (·.1)).length : Nat) : Int) + a1), .int a2, .int a3, .int a4, .int a5]) (Same.refl H3) np
        have eC4 := k4 _ _ eC
        have kt := kt_mut (zs := ws ++ [V.ref p]) eC4
        refine ⟨ws, eC4, szN (by omega), ws ++ [.ref p], same_mut (k3.trans k4) nC, upd_same, ?_⟩
        rw [show st.2.2.take (u + 1) = st.2.2.take u ++ [[a1, a2, a3, a4, a5]] by rw [List.take_succ, er]; rfl, List.map_append]
        exact LV.snoc (lw.mono fun _ _ z => z.kt fun a xs e => kt _ _ (k4 _ _ e)) ⟨p, rfl, kt _ _ upd_same, rfl⟩
      · rintro H3 ⟨ws, k3, eC, lw⟩
        rw [lt.1, List.take_length] at lw
        have lwl := lw.1
        rw [List.length_map] at lwl
        have eD3 := k3 _ _ eD2
        refine ⟨D, C, zs, ws, rfl, rfl, eD3, eC, Nat.le_of_lt (szN (by omega)), ?_⟩
        have kt := kt_mut (zs := zs ++ ws) eD3
        refine ⟨_, rfl, _, rfl, _, rfl, hb, _, _, rfl, rfl, ?_⟩
        have ev : V.int (((((ss.take n).flatMap (·.1)).length : Nat) : Int) + ((mkS st.1).length : Nat)) = nV ((ss.take (n + 1)).flatMap (·.1)).length := by
          rw [fl_one (·.1) est, List.length_append, mkS_len]; rfl
        refine ⟨some (sV st.1), some (sV st.2.1), some (.ref t), x6, x7, x8, x9, x10, x11, zs ++ ws, congrArg (fun z => [some (V.ref L), some (.ref D), some z, some (sV st.1), some (sV st.2.1), some (.ref t), x6, x7, x8, x9, x10, x11]) ev, same_mut (k2.trans k3) nD, upd_same, ?_⟩
        rw [trs_take 0 n st est, Nat.zero_add]
        exact LV.app (lz.mono fun _ _ z => z.kt fun a xs e => kt _ _ (k3 _ _ e)) (lw.mono fun _ _ z => z.kt kt)
    · rintro σ1 H2 ⟨x3, x4, x5, x6, x7, x8, x9, x10, x11, zs, rfl, k2, eD2, lz⟩
      rw [lus, List.take_length] at lz
      have lz2 := lz.1
      have em : ∀ (h : Stp → List Nat) (n : Nat), (((ss.take n).map h).map mkS).map (fun z => V.str z) = ((ss.take n).map h).map sV := fun h n => by rw [List.map_map]; rfl
      refine ⟨⟨_, rfl⟩, _, rfl, L, rfl, ⟨_, SqL.of (k2 _ _ eL)⟩, fun C1 nC1 => ?_⟩
      refine lc_it (walk_list (K := K) (a := L) (xs := us)) (fun n H' => Same H2 H' ∧ H' C1 = some (.lst (((ss.take n).map (·.1)).map sV))) ⟨same_upd (Same.refl H2) nC1, upd_same⟩ ?_ ?_ ?_
      · rintro i H' _ ⟨k, _⟩
        exact SqL.of ((k2.trans k) _ _ eL)
      · rintro n x Ha H3 hn ⟨k3, eC⟩ ⟨rfl, hx⟩
        obtain ⟨st, est, b, t, ts, rfl, eb, et, lt⟩ := lv.at hx
        refine ⟨rfl, _, rfl, b, _, 0, _, rfl, rfl, SqT.of ((k2.trans k3) _ _ eb), rfl, _, eC, ?_, same_mut k3 nC1, ?_⟩
        · rw [List.length_map, List.length_map, List.length_take]; exact szN (by omega)
        · rw [upd_same, show ss.take (n + 1) = ss.take n ++ [st] by rw [List.take_succ, est]; rfl, List.map_append, List.map_append]; rfl
      rintro H3 ⟨k3, eC⟩
      rw [lus, List.take_length] at eC
      refine ⟨"", C1, (ss.map (·.1)).map mkS, rfl, rfl, .inl (SqL.of (by rw [eC, map_sV])), ?_, ?_⟩
      · have e1 : ((ss.map (·.1)).flatten).length = (ss.flatMap (·.1)).length := by rw [List.flatMap_def]
        have la : (ss.flatMap (·.1)).length ≤ 90000 := la
        rw [sum_len, e1, show (("" : Str)).length = 0 from by rw [empty_mk, mkS_len]; rfl]
        refine big_ok ?_
        rw [List.length_map, List.length_map]; omega
      · rw [join_mk]
        refine ⟨⟨_, rfl⟩, _, rfl, L, rfl, ⟨_, SqL.of ((k2.trans k3) _ _ eL)⟩, fun C2 nC2 => ?_⟩
        refine lc_it (walk_list (K := K) (a := L) (xs := us)) (fun n H' => Same H3 H' ∧ H' C2 = some (.lst (((ss.take n).map (·.2.1)).map sV))) ⟨same_upd (Same.refl H3) nC2, upd_same⟩ ?_ ?_ ?_
        · rintro i H' _ ⟨k, _⟩
          exact SqL.of (((k2.trans k3).trans k) _ _ eL)
        · rintro n x Ha H4 hn ⟨k4, eC⟩ ⟨rfl, hx⟩
          obtain ⟨st, est, b, t, ts, rfl, eb, et, lt⟩ := lv.at hx
          refine ⟨rfl, _, rfl, b, _, 1, _, rfl, rfl, SqT.of (((k2.trans k3).trans k4) _ _ eb), rfl, _, eC, ?_, same_mut k4 nC2, ?_⟩
          · rw [List.length_map, List.length_map, List.length_take]; exact szN (by omega)
          · rw [upd_same, show ss.take (n + 1) = ss.take n ++ [st] by rw [List.take_succ, est]; rfl, List.map_append, List.map_append]; rfl
        rintro H4 ⟨k4, eC⟩
        rw [lus, List.take_length] at eC
        refine ⟨"", C2, (ss.map (·.2.1)).map mkS, rfl, rfl, .inl (SqL.of (by rw [eC, map_sV])), ?_, ?_⟩
        · have e1 : ((ss.map (·.2.1)).flatten).length = (ss.flatMap (·.2.1)).length := by rw [List.flatMap_def]
          have lb : (ss.flatMap (·.2.1)).length ≤ 90000 := lb
          rw [sum_len, e1, show (("" : Str)).length = 0 from by rw [empty_mk, mkS_len]; rfl]
          refine big_ok ?_
          rw [List.length_map, List.length_map]; omega
        · rw [join_mk]
          have k24 := k3.trans k4
          refine ⟨_, rfl, D, zs, rfl, .inl ⟨SqL.of (k24 _ _ eD2), fun t nt => ⟨by show 3 ≤ sizeLine; decide, fun b nb => ?_⟩⟩⟩
          have k5 := same_upd (o := .tup zs) (Same.refl H4) nt
          have et : upd H4 t (.tup zs) t = some (.tup zs) := upd_same
          generalize upd H4 t (.tup zs) = H5 at k5 et nb
          have tt := kt_new (o := .tup [V.str (mkS (ss.map (·.1)).flatten), V.str (mkS (ss.map (·.2.1)).flatten), V.ref t]) nb
          refine q _ (.ref b) (same_upd ((k2.trans k24).trans k5) nb) ⟨b, t, zs, rfl, ?_, tt _ _ et, lz.mono fun _ _ z => z.kt fun a xs e => tt _ _ (k5 _ _ (k24 _ _ e))⟩
          rw [upd_same]
          show some (HO.tup [V.str (mkS (ss.map (·.1)).flatten), V.str (mkS (ss.map (·.2.1)).flatten), V.ref t]) = some (HO.tup [sV (ss.flatMap (·.1)), sV (ss.flatMap (·.2.1)), V.ref t])
          rw [List.flatMap_def, List.flatMap_def]; rfl
end
end Vf

set_option Elab.async false
set_option linter.all false
set_option maxRecDepth 100000
set_option maxHeartbeats 4000000
namespace Vf
open PySem PySem.Spec PyProof.Rows L2 TL
def WkV (H : Hp) (x : V) (y : List Nat × Nat) : Prop := ∃ b, x = .ref b ∧ H b = some (.tup [sV y.1, nV y.2])
theorem WkV.kt {H H' : Hp} {x : V} {y : List Nat × Nat} (h : WkV H x y) (k : ∀ a xs, H a = some (.tup xs) → H' a = some (.tup xs)) : WkV H' x y := by
  obtain ⟨b, e, h1⟩ := h
  exact ⟨b, e, k _ _ h1⟩
def CvV (H : Hp) (x : V) (c : List Nat × List Nat) : Prop := ∃ b, x = .ref b ∧ H b = some (.tup [sV c.1, sV c.2])
theorem CvV.kt {H H' : Hp} {x : V} {c : List Nat × List Nat} (h : CvV H x c) (k : ∀ a xs, H a = some (.tup xs) → H' a = some (.tup xs)) : CvV H' x c := by
  obtain ⟨b, e, h1⟩ := h
  exact ⟨b, e, k _ _ h1⟩
theorem piece_sg (S : Sty) (z : List Nat) (q k m : Nat) : (pieceS S z q k m).1 = pcN S z k m := by
  unfold pieceS
  split <;> rfl
theorem piece_cv (S : Sty) (z : List Nat) (q k m : Nat) : (pieceS S z q k m).2.1 = List.replicate (pcN S z k m).length (if q = 0 then 32 else 35) := by
  unfold pieceS
  split <;> rfl
def EqL (s : Stp) : Prop := s.1.length = s.2.1.length ∧ s.2.2.length ≤ 1
theorem piece_eq (S : Sty) (z : List Nat) (q k m : Nat) : EqL (pieceS S z q k m) := by
  refine ⟨by rw [piece_sg, piece_cv, List.length_replicate], ?_⟩
  unfold pieceS
  split
  · exact Nat.zero_le _
  · exact Nat.le_refl _
theorem blank_eq (n : Nat) : EqL (blankS n) := ⟨by show (List.replicate n 32).length = (List.replicate (List.replicate n 32).length 32).length; rw [List.length_replicate (n := (List.replicate n 32).length)], Nat.zero_le _⟩
theorem flat_eq : ∀ {ss : List Stp}, (∀ s ∈ ss, s.1.length = s.2.1.length) → (ss.flatMap (·.1)).length = (ss.flatMap (·.2.1)).length
  | [], _ => rfl
  | s :: ss, h => by
    rw [List.flatMap_cons, List.flatMap_cons, List.length_append, List.length_append, h s List.mem_cons_self, flat_eq fun x hx => h x (List.mem_cons_of_mem _ hx)]
theorem trs_le : ∀ {ss : List Stp} (l : Nat), (∀ s ∈ ss, s.2.2.length ≤ 1) → (trsS l ss).length ≤ ss.length
  | [], _, _ => Nat.le_refl _
  | s :: ss, l, h => by
    show (s.2.2.map _ ++ trsS _ ss).length ≤ ss.length + 1
    rw [List.length_append, List.length_map]
    have h1 := h s List.mem_cons_self
    have h2 := trs_le (ss := ss) (l + s.1.length) fun x hx => h x (List.mem_cons_of_mem _ hx)
    omega
def EqL' (s : Stp) : Prop := s.1.length = s.2.1.length ∧ s.2.2.length ≤ 1000
def plS (l : Nat) (s : Stp) (M : Nat) : Stp := jnS [blankS l, s, blankS (M - l - s.1.length)]
theorem pl_ok {l M : Nat} {s : Stp} (h : EqL' s) (hm : M ≤ 20000) (hl : l + s.1.length ≤ M) : JnOk [blankS l, s, blankS (M - l - s.1.length)] := by
  obtain ⟨h1, h2⟩ := h
  have b : ∀ n, (blankS n).1.length = n := fun n => List.length_replicate
  have b2 : ∀ n, (blankS n).2.1.length = n := fun n => by show (List.replicate (List.replicate n 32).length 32).length = n; rw [List.length_replicate, List.length_replicate]
  refine ⟨by show 3 ≤ 1000; decide, ?_, ?_, ?_⟩
  · show ((blankS l).1 ++ (s.1 ++ ((blankS (M - l - s.1.length)).1 ++ []))).length ≤ 90000
    rw [List.length_append, List.length_append, List.length_append, b, b]
    show l + (s.1.length + (M - l - s.1.length + 0)) ≤ 90000
    omega
  · show ((blankS l).2.1 ++ (s.2.1 ++ ((blankS (M - l - s.1.length)).2.1 ++ []))).length ≤ 90000
    rw [List.length_append, List.length_append, List.length_append, b2, b2]
    show l + (s.2.1.length + (M - l - s.1.length + 0)) ≤ 90000
    omega
  · show ([] ++ (s.2.2.map _ ++ ([] ++ []))).length ≤ 40000
    rw [List.nil_append, List.append_nil, List.append_nil, List.length_map]
    omega
theorem pl_cv {M : Nat} {s : Stp} : ((plS 0 s M).1, (plS 0 s M).2.1) = (s.1 ++ List.replicate (M - s.1.length) 32, s.2.1 ++ List.replicate (M - s.1.length) 32) := by
  refine Prod.ext ?_ ?_
  · show [] ++ (s.1 ++ (List.replicate (M - 0 - s.1.length) 32 ++ [])) = _
    rw [List.nil_append, List.append_nil, Nat.sub_zero]
  · show [] ++ (s.2.1 ++ (List.replicate (List.replicate (M - 0 - s.1.length) 32).length 32 ++ [])) = _
    rw [List.nil_append, List.append_nil, Nat.sub_zero, List.length_replicate]
def LnV (H : Hp) (x : V) (c : List Nat × List Nat) : Prop := ∃ s, StpV H x s ∧ (s.1, s.2.1) = c
theorem LnV.kt {H H' : Hp} {x : V} {c : List Nat × List Nat} (h : LnV H x c) (k : ∀ a xs, H a = some (.tup xs) → H' a = some (.tup xs)) : LnV H' x c := by
  obtain ⟨s, h1, h2⟩ := h
  exact ⟨s, h1.kt k, h2⟩
theorem if_one {c : TT} {a b : TE} {σ : L2.St} {H : Hp} {Q : VK} {p : Prop} [Decidable p] {x : V} (hc : ∀ R : Bool → Hp → Prop, R (decide p) H → c σ H R) (ha : p → ∀ R : VK, R x H → a σ H R) (hb : ¬ p → ∀ R : VK, R x H → b σ H R) (q : Q x H) : tIf c a b σ H Q := by
  refine hc _ ?_
  by_cases h : p
  · rw [decide_eq_true h]
    exact ha h _ q
  · rw [decide_eq_false h]
    exact hb h _ q
theorem ifs_or {a b : TT} {s t : TS} {D : Ends} {σ : L2.St} {H : Hp} {p q : Prop} [Decidable p] [Decidable q] (ha : ∀ Q : Bool → Hp → Prop, Q (decide p) H → a σ H Q) (hb : ∀ Q : Bool → Hp → Prop, Q (decide q) H → b σ H Q)
    (h1 : p ∨ q → s D σ H) (h2 : ¬ (p ∨ q) → t D σ H) : tIfS (tOr a b) s t D σ H := by
  refine ha _ ?_
  by_cases c : p
  · rw [decide_eq_true c]
    exact h1 (.inl c)
  · rw [decide_eq_false c]
    refine hb _ ?_
    by_cases c2 : q
    · rw [decide_eq_true c2]
      exact h1 (.inr c2)
    · rw [decide_eq_false c2]
      exact h2 fun z => z.elim c c2
section
variable {P : Program} {w : World} {K : PySem.W.Frag} {mg : Str → Option Value} {base : Heap}
def spPlaced : Sp := fun vs H Q _ => ∃ (x : V) (s : Stp) (l M : Nat), vs = [x, nV l, nV M] ∧ StpV H x s ∧ EqL' s ∧ M ≤ 20000 ∧ l + s.1.length ≤ M ∧ ∀ H' y, Same H H' → StpV H' y (plS l s M) → Q y H'
theorem ok_placed (T : Txt K mg) : FnOk P w K mg base CX0 3 T.a_placed T.d_placed ["strip", "left", "width"] spPlaced := by
  have G_joined : FnOk P w K mg base CX0 1 T.a_joined T.d_joined ["strips"] spJoined := ok_joined T
  have G_blank_strip : FnOk P w K mg base CX0 2 T.a_blank_strip T.d_blank_strip ["width"] spBlank := ok_blank T
  refine T.D_placed.F.ok sc_placed (fun vs H Q E h => ?_) (fun cdv A outer s H vs Q E hr h => ?_)
  · obtain ⟨_, _, _, _, rfl, _⟩ := h
    rfl
  · obtain ⟨x, s, l, M, rfl, sv, eq, hM, hl, q⟩ := h
    refine ⟨_, (pss_one (ps_ret (pe_call G_joined (hr.mono (by decide)) (by rfl) T.D_joined.G T.D_joined.F.kp T.D_joined.B .nil pass0 (pa_cons (pe_lst (pa_cons (pe_call G_blank_strip (hr.mono (by decide)) (by rfl) T.D_blank_strip.G T.D_blank_strip.F.kp T.D_blank_strip.B .nil pass0 (pa_cons (pv 1) pa_nil)) (pa_cons (pv 0) (pa_cons (pe_call G_blank_strip (hr.mono (by decide)) (by rfl) T.D_blank_strip.G T.D_blank_strip.F.kp T.D_blank_strip.B .nil pass0 (pa_cons (pe_op op_sub (pe_op op_sub (pv 2) (pv 1)) (pe_callB call_len_str (by rfl) T.n_len PySem.boot_len (pa_cons (pe_ix ix_tup (pv 0) pe_int (fun _ _ => rfl)) pa_nil))) pa_nil)) pa_nil)))) pa_nil)))), ?_⟩
    refine ⟨_, rfl, l, rfl, by omega, fun H1 b1 k1 s1 => ?_⟩
    refine ⟨_, rfl, ?_⟩
    have sv1 := sv.kt (same_tup k1)
    obtain ⟨b, t, us, rfl, eb, et, lt⟩ := id sv1
    have hb : (mkS s.1).length ≤ sizeLine := by rw [mkS_len]; exact big_ok (by omega)
    refine ⟨_, rfl, _, rfl, _, _, rfl, rfl, _, rfl, b, _, 0, _, rfl, rfl, SqT.of eb, rfl, _, rfl, hb, _, _, rfl, rfl, ?_⟩
    refine ⟨M - l - s.1.length, ?_, by omega, fun H2 b2 k2 s2 => ?_⟩
    · rw [mkS_len]
      exact congrArg (fun z => [V.int z]) (by omega)
    refine ⟨by show 3 ≤ sizeLine; decide, fun L nL => ?_⟩
    have k3 := same_upd (o := .lst [b1, .ref b, b2]) (Same.refl H2) nL
    have eL : upd H2 L (.lst [b1, .ref b, b2]) L = some (.lst [b1, .ref b, b2]) := upd_same
    generalize upd H2 L (.lst [b1, .ref b, b2]) = H3 at k3 eL
    refine ⟨L, _, [blankS l, s, blankS (M - l - s.1.length)], rfl, eL, ?_, pl_ok eq hM hl, fun H4 y k4 hy => q H4 y (((k1.trans k2).trans k3).trans k4) hy⟩
    exact LV.snoc (vs := [b1, .ref b]) (rs := [blankS l, s]) (LV.snoc (vs := [b1]) (rs := [blankS l]) (LV.snoc LV.nil (s1.kt (same_tup (k2.trans k3)))) (sv1.kt (same_tup (k2.trans k3)))) (s2.kt (same_tup k3))
def spBare : Sp := fun vs H Q _ => ∃ (t : Addr) (us : List V) (cs : List (List Nat × List Nat)), vs = [.ref t] ∧ H t = some (.tup us) ∧ LV (LnV H) us cs ∧ cs.length ≤ 1000 ∧ ∀ H' p ws, Same H H' → H' p = some (.tup ws) → LV (CvV H') ws cs → Q (.ref p) H'
theorem ok_bare (T : Txt K mg) : FnOk P w K mg base CX0 1 T.a_bare T.d_bare ["strips"] spBare := by
  refine T.D_bare.F.ok sc_bare (fun vs H Q E h => ?_) (fun cdv A outer s H vs Q E hr h => ?_)
  · obtain ⟨_, _, _, rfl, _⟩ := h
    rfl
  · obtain ⟨t, us, cs, rfl, et, lv, ln, q⟩ := h
    have lus := lv.1
    refine ⟨_, (pss_one (ps_ret (pe_callTy call_tuple_of (by rfl) T.n_tuple (by decide +kernel) (pa_cons (pe_lc (own := [("strip", 1)]) (g := gName 1) (tt := tYes) rfl sc_bare.nd (pi_tup (pv 0)) (blkOk_by (own := [("strip", 1)]) (N := ["strips", "strip"]) (sc := (defScope s_bare)) (by decide +kernel)) (fun _ _ _ _ _ => (pg_name (i := 1) sc_bare.nd rfl (.inl rfl))) (fun _ _ _ _ _ => pts_nil) (fun _ _ _ _ _ => (pe_slice (r := rSlA K) sl_tupA (pv 1) po_none (po_some pe_int)))) pa_nil)))), ?_⟩
    refine ⟨_, rfl, t, rfl, ⟨_, SqT.of et⟩, fun D nD => ?_⟩
    refine lc_it (walk_tup (K := K) (a := t) (xs := us)) (fun n H' => ∃ ws, Same H H' ∧ H' D = some (.lst ws) ∧ LV (CvV H') ws (cs.take n)) ⟨[], same_upd (Same.refl H) nD, upd_same, LV.nil⟩ ?_ ?_ ?_
    · rintro i H' _ ⟨_, k, _⟩
      exact SqT.of (k _ _ et)
    · rintro n x Ha H2 hn ⟨ws, k2, eD, lw⟩ ⟨rfl, hx⟩
      obtain ⟨cv, est, st, ⟨b, tt, ts, rfl, eb, ett, ltt⟩, rfl⟩ := lv.at hx
      have lwl := lw.1
      rw [List.length_take] at lwl
      refine ⟨rfl, _, rfl, 2, rfl, slA_any (k2 _ _ eb) fun C H3 k3 eC => ?_⟩
      have eD3 := k3 _ _ eD
      have kt := kt_mut (zs := ws ++ [V.ref C]) eD3
      refine ⟨ws, eD3, szN (by omega), ws ++ [.ref C], same_mut (k2.trans k3) nD, upd_same, ?_⟩
      rw [show cs.take (n + 1) = cs.take n ++ [(st.1, st.2.1)] by rw [List.take_succ, est]; rfl]
      exact LV.snoc (lw.mono fun _ _ z => z.kt fun a xs e => kt _ _ (k3 _ _ e)) ⟨C, rfl, kt _ _ eC⟩
    rintro H2 ⟨ws, k2, eD, lw⟩
    rw [lus, List.take_length] at lw
    refine ⟨D, ws, rfl, .inl ⟨SqL.of eD, fun p np => ?_⟩⟩
    exact q _ p ws (same_upd k2 np) upd_same (lw.mono fun _ _ z => z.kt (kt_new np))
end
theorem and_one {a b : TT} {σ : L2.St} {H : Hp} {p q : Prop} [Decidable p] [Decidable q] (ha : ∀ R : Bool → Hp → Prop, R (decide p) H → a σ H R) (hb : ∀ R : Bool → Hp → Prop, R (decide q) H → b σ H R) : ∀ R : Bool → Hp → Prop, R (decide (p ∧ q)) H → tAnd a b σ H R := fun R h => by
  refine ha _ ?_
  by_cases c : p
  · rw [decide_eq_true c]
    refine hb _ ?_
    rw [show decide q = decide (p ∧ q) from decide_eq_decide.mpr ⟨fun z => ⟨c, z⟩, fun z => z.2⟩]
    exact h
  · rw [decide_eq_false c]
    rw [decide_eq_false fun z : p ∧ q => c z.1] at h
    exact h
theorem or_one {a b : TT} {σ : L2.St} {H : Hp} {p q : Prop} [Decidable p] [Decidable q] (ha : ∀ R : Bool → Hp → Prop, R (decide p) H → a σ H R) (hb : ¬ p → ∀ R : Bool → Hp → Prop, R (decide q) H → b σ H R) : ∀ R : Bool → Hp → Prop, R (decide (p ∨ q)) H → tOr a b σ H R := fun R h => by
  refine ha _ ?_
  by_cases c : p
  · rw [decide_eq_true c]
    rw [decide_eq_true (show p ∨ q from .inl c)] at h
    exact h
  · rw [decide_eq_false c]
    refine hb c _ ?_
    rw [show decide q = decide (p ∨ q) from decide_eq_decide.mpr ⟨fun z => .inr z, fun z => z.resolve_left c⟩]
    exact h
theorem ifs_of {c : TT} {s t : TS} {D : Ends} {σ : L2.St} {H : Hp} {p : Prop} [Decidable p] (hc : ∀ R : Bool → Hp → Prop, R (decide p) H → c σ H R) (h1 : p → s D σ H) (h2 : ¬ p → t D σ H) : tIfS c s t D σ H := by
  refine hc _ ?_
  by_cases h : p
  · rw [decide_eq_true h]; exact h1 h
  · rw [decide_eq_false h]; exact h2 h
theorem ifs_mid {c : TT} {s t : TS} {D : Ends} {σ : L2.St} {H : Hp} {p : Prop} [Decidable p] (Mid : L2.St → Hp → Prop) (hc : ∀ R : Bool → Hp → Prop, R (decide p) H → c σ H R) (h1 : p → (∀ σ' H', Mid σ' H' → D.nx σ' H') → s D σ H) (h2 : ¬ p → (∀ σ' H', Mid σ' H' → D.nx σ' H') → t D σ H) (h : ∀ σ' H', Mid σ' H' → D.nx σ' H') : tIfS c s t D σ H :=
  ifs_of hc (fun z => h1 z h) (fun z => h2 z h)
theorem ifs_orH {a b : TT} {s t : TS} {D : Ends} {σ : L2.St} {H : Hp} (ha : ∀ R : Bool → Hp → Prop, R false H → a σ H R) (hb : ∀ R : Bool → Hp → Prop, (∀ H', Same H H' → R false H') → b σ H R) (h : ∀ H', Same H H' → t D σ H') : tIfS (tOr a b) s t D σ H :=
  ha _ (hb _ h)
def CutV (H : Hp) (x : V) (cs : List (List Nat × List Nat)) : Prop := ∃ p ws, x = .ref p ∧ H p = some (.tup ws) ∧ LV (CvV H) ws cs
theorem CutV.kt {H H' : Hp} {x : V} {cs : List (List Nat × List Nat)} (h : CutV H x cs) (k : ∀ a xs, H a = some (.tup xs) → H' a = some (.tup xs)) : CutV H' x cs := by
  obtain ⟨p, ws, e, h1, h2⟩ := h
  exact ⟨p, ws, e, k _ _ h1, h2.mono fun _ _ z => z.kt k⟩
theorem not_dec' {p : Prop} [Decidable p] (h : p) : (!decide p) = false := by rw [decide_eq_true h]; rfl
end Vf

set_option Elab.async false
set_option linter.all false
set_option maxRecDepth 100000
set_option maxHeartbeats 4000000
/-! ### isinstance of an exception that has its own dict -/
namespace PySem.W
open PySem PySem.Spec PySem.Calls PyProof.Rows
section
variable {prog : Program} {w : World} {A : Around} {E : Value → Shared → Prop} {s : Shared} {K : Frag} {x D : Addr} {ox : Obj} {od : Option Obj}
theorem vf_data {name : Str} {a g : Value} (hc : (clsIn K D).isSome = true) (ha : findIn K (.ref D) name = some (some a)) (hg : specialIn K a "__get__" = some (some g)) (ht : takesIn K a = some true) :
    findObj K D od name = some (.bind g a) := by
  cases e : clsIn K D with
  | none => rw [e] at hc; cases hc
  | some cd =>
    unfold findObj
    rw [e, Option.bind_some, ha, Option.bind_some]
    simp [hg, ht]
theorem vf_class {Q : Option Value → Shared → Prop} (C : L2.ExcC K D) (X : K.In s.heap) (I : InstAt s.heap x ox D od) (q : Q (some (.ref D)) { s with toks := s.toks + 1 }) :
    wpAny (model prog w) A (getAttr? (.ref x) "__class__") Q E s := by
  have found : findObj K D od "__class__" = some (.bind (.builtin "getset_descriptor.__get__") (.builtin "object.__class__")) :=
    vf_data (by obtain ⟨cd, e, _⟩ := any_some C.hd; rw [e]; rfl) C.ha C.hn C.ht
  rcases s with ⟨hp, g, d, t, os⟩
  have l0 := I.type (M := model prog w)
  have l1 := looks_findIn (M := model prog w) X C.hg
  have l2 := looks_findIn (M := model prog w) X C.hk
  have l3 := looks_find (M := model prog w) X I found
  have lb : Looks (model prog w) hp (isInstance (.ref x) (.type "BaseException")) true := l0.andThen (looks_subIn X C.hs)
  have n0 : (false && onTheHeap (Value.builtin "BaseException.__getattribute__")) = false := rfl
  have n1 : (onTheHeap (Value.ref D) && Value.builtin "BaseException.__getattribute__" == Value.builtin "object.__getattribute__") = false := by
    have n2 : (Value.builtin "BaseException.__getattribute__" == Value.builtin "object.__getattribute__") = false := by decide +kernel
    rw [n2]
    rfl
  unfold getAttr? getAttrBy? getAttrBy
  refine wpAny_bind (wpAny_mkText (wpAny_bind (wpAny_attempt (wpAny_holding ?_))))
  refine wpAny_bind (l0.at (wpAny_bind (l1.at ?_)))
  show wpAny _ _ (ite ((onTheHeap (Value.ref D) && Value.builtin "BaseException.__getattribute__" == Value.builtin "object.__getattribute__") = true) _ _) _ _ _
  rw [n1, if_neg Bool.false_ne_true]
  unfold getAttrByItsOwn hookBefore
  apply wpAny_bind
  rw [if_pos (show onTheHeap (Value.ref D) = true from rfl)]
  apply l2.at
  apply wpAny_bind
  apply wpAny_attempt
  apply wpAny_holding
  unfold callGetattribute
  rw [n0, if_neg Bool.false_ne_true]
  unfold boundAndCalled
  rw [PySem.F.excAttr_ValueError.ga.bind (.ref x)]
  apply wpAny_bind
  apply wpAny_pure
  show wpAny _ _ (call (Value.builtin "BaseException.__getattribute__") [Value.ref x, Value.str "__class__" t]) _ _ _
  apply wpAny_call
  apply codeAny_call_builtin PySem.F.excAttr_ValueError.ga.plain PySem.F.entry_bexc_ga
  refine @check_slot (model prog w) _ _ ⟨hp, g, d, t + 1, os⟩ "BaseException.__getattribute__" "BaseException" "__getattribute__" (.ref x) [.str "__class__" t] []
    _ (by decide +kernel) (by decide +kernel) lb (PySem.F.args_bexc_ga (.ref x) (.str "__class__" t)) ?_
  unfold Builtin.«object.__getattribute__»
  apply wpAny_bind
  apply wpAny_of_eq (a := ((Value.ref x : Value), [Value.str "__class__" t])) (by first | rfl | (simp only [slotArgs]; rfl))
  apply wpAny_bind
  apply wpAny_pure
  apply wpAny_bind
  apply l0.at
  apply wpAny_bind
  apply l3.at
  show wpAny _ _ (holding [Value.builtin "object.__class__"] (call (Value.builtin "getset_descriptor.__get__") [Value.builtin "object.__class__", Value.ref x, Value.ref D]) >>= ret) _ _ _
  apply wpAny_bind
  apply wpAny_holding
  apply wpAny_call
  apply class_get (s := ⟨hp, g, d, t + 1, os⟩) (ox := ox) (od := od) X I C.hm
  apply wpAny_pure
  show wpAny _ _ (handedOut (Value.ref D)) _ _ _
  rw [handedOut_of (v := Value.ref D) rfl]
  first | exact wpAny_pure (wpAny_pure q) | exact wpAny_pure q | exact wpAny_pure (wpAny_bind (wpAny_pure (wpAny_pure q)))
theorem vf_kit (C : L2.ExcC K D) : KitX K (.ref x) (.ref D) (fun h => InstAt h x ox D od) := by
  obtain ⟨cdD, hcD, _⟩ := any_some C.hd
  refine ⟨fun _ _ _ I => I.type, fun _ _ X _ => ?_, fun h tp dd its n sl X htp => ?_, fun X I k => vf_class C X I k⟩
  · unfold clsIn at hcD
    split at hcD
    · next e =>
      intro A' Q' E' s' k q
      unfold isType loadHead
      exact wpAny_bind (wpAny_loadPart (k _ _ (X _ _ e)) (wpAny_pure q))
    · cases hcD
  · apply Bool.eq_false_iff.mpr
    intro q
    have e : D = tp := Value.ref.inj (beq_iff_eq.mp q)
    rw [← e] at htp
    unfold clsIn at hcD
    split at hcD
    · next e2 =>
      have z := (X _ _ e2).symm.trans htp
      cases z
    · cases hcD
end
end PySem.W
namespace Vf
open PySem PySem.Spec PyProof.Rows L2 L2H TL
/-- the pinned exception p: of the class D, its dict at d -/
structure ExcAt (K : PySem.W.Frag) (D d : Addr) (p : Addr × Obj) : Prop where
  z : Zc (.ref D) (some d) p.2
  f : ∃ vs, p.2.data = .fields vs
theorem ExcAt.inst {X : Cx} {K : PySem.W.Frag} {D d : Addr} {p : Addr × Obj} {pins : List (Addr × Obj)} {σ : L2.St} {H : Hp} {s : Shared} {fs : List (Str × V)} (c : ExcAt K D d p) (I : Inv X pins σ H s) (hp : p ∈ X.pn) (hd : H d = some (.xd fs)) :
    ∃ (od : Obj) (mA : Str → Option Value), PySem.W.InstAt s.heap p.1 p.2 D (some od) ∧ (∀ n, PySem.W.lookIn n od = some (mA n)) ∧ ∀ n, RelO (fs.lookup n) (mA n) := by
  have hx : ObjOk X.prog X.w H s.heap d (.xd fs) := I.hok d _ hd
  obtain ⟨mA, hns, hr⟩ := hx
  obtain ⟨od, ho, hl⟩ := lookIn_ns hns
  obtain ⟨vs, hv⟩ := c.f
  have ha := (I.pin p (List.mem_append_left _ hp)).1
  exact ⟨od, mA, ⟨ha, c.z.1, (by unfold PySem.W.notCls; rw [hv] <;> rfl), (by rw [c.z.2]; exact ho)⟩, hl, hr⟩
/-- isinstance(e, c) of the pinned exception -/
def rIsP (K : PySem.W.Frag) (D d : Addr) (p : Addr × Obj) (xs : List V) (H : Hp) (Q : VK) : Prop :=
  ∃ (c : V) (cv : Value) (b : Bool) (fs : List (Str × V)), xs = [.ref p.1, c] ∧ ClsV c cv ∧
    PySem.W.kitOne K (.ref D) cv = some b ∧ H d = some (.xd fs) ∧ Q (.bl b) H
theorem call_isP {X : Cx} {D d : Addr} {p : Addr × Obj} (C : ExcC X.K D) (c : ExcAt X.K D d p) (hp : p ∈ X.pn) : CallR X (.builtin "isinstance") (rIsP X.K D d p) := by
  intro pins s σ H xs us Q I r h
  obtain ⟨cc, cv, b, fs, rfl, hcv, e, hd, q⟩ := h
  obtain ⟨u1, u2, rfl, r1, r2⟩ := vals2 r
  have e1 : u1 = Value.ref p.1 := r1
  have e2 := hcv.eq r2
  subst e1 e2
  obtain ⟨od, mA, J, _, _⟩ := c.inst I hp hd
  exact PySem.W.kia_one (PySem.W.vf_kit C) I.kIn J e (fun z => nomatch z) fun tk => ⟨.bl b, H, I.kept (t' := tk) fun _ _ z => z, rfl, q⟩
/-- e.n of the pinned exception -/
def tXp (d : Addr) (p : Addr × Obj) (n : Str) (te : TE) (σ : L2.St) (H : Hp) (Q : VK) : Prop :=
  te σ H fun x H1 => x = .ref p.1 ∧ ∃ (fs : List (Str × V)) (v : V), H1 d = some (.xd fs) ∧ fs.lookup n = some v ∧ Q v H1
theorem pe_xp {X : Cx} {D d : Addr} {p : Addr × Obj} {e : Expr} {te : TE} {pos : Pos} {n : Str} (C : XfC X.K D) (hno : PySem.W.findIn X.K (.ref D) n = some none) (c : ExcAt X.K D d p) (hp : p ∈ X.pn) (he : PE X e te)
    (hb : attributeBase e n X.env (eval e X.env) = eval e X.env := by rfl) : PE X (.Attribute e n pos) (tXp d p n te) := by
  constructor
  intro pins s σ H Q I h
  refine attr_of hb (thn (he.run pins s σ H _ I h) fun u s1 hh => ?_)
  obtain ⟨x, H1, I1, rx, ex, fs, v, hd, l, q⟩ := hh
  subst ex
  have eu : u = Value.ref p.1 := rx
  subst eu
  obtain ⟨od, mA, J, hl, hr⟩ := c.inst I1 hp hd
  obtain ⟨y, hy, ry⟩ := RelO.some_of (v := v) (o := mA n) (by rw [← l]; exact hr n)
  exact HandSPX.exc_get I1.kIn J C.ga C.gg C.exC (PySem.W.findObj_own C.hdC hno rfl (by rw [hl, hy])) (handed_of ry) ⟨v, H1, I1.tok _, ry, q⟩
/-! ### a def that is called where an exception is held, and knows it -/
structure FnP (P : Program) (w : World) (K : PySem.W.Frag) (mg : Str → Option Value) (base : Heap) (k : Nat) (f : Addr) (fd : FuncData) (ps : List Str) (sp : (Addr × Obj) → List V → Hp → VK → Prop) : Prop where
  len : ∀ p vs H Q, sp p vs H Q → vs.length = ps.length
  run : ∀ (A : Around) (outer : List Env) (s : Shared) (H : Hp) (us : List Value) (vs : List V) (Q : VK) (p : Addr × Obj),
    RoomH k A → Hot1 A p → PinOk outer H s p → Env0 P w K mg base A outer s H → BindsTo s fd ⟨us, []⟩ (ps.zip us) → Vals vs us → sp p vs H Q →
    codeAny (model P w) A (.call (.ref f) ⟨us, []⟩) (CR CX0 outer P w H s Q E0) s
/-- the held exception alone -/
abbrev cxP (P : Program) (w : World) (K : PySem.W.Frag) (mg : Str → Option Value) (base : Heap) (N : List Str) (qual : Str) (scope : Scope) (f : Addr) (cd : Value) (A : Around) (outer : List Env) (s : Shared) (H : Hp) (p : Addr × Obj) : Cx :=
  cxH CX0 P w K mg base N qual scope f cd A outer s H E0 p
section
variable {P : Program} {w : World} {K : PySem.W.Frag} {mg : Str → Option Value} {base : Heap} {k : Nat} {f : Addr} {fd : FuncData}
/-- from a def's body, as FnH's: by that rule, at the one exception -/
theorem FnP.of {x qual : Str} {st : Stmt} {N ps : List Str} {sp : (Addr × Obj) → List V → Hp → VK → Prop} (F : L2.Fun K x qual st f fd) (S : FnScope N ps (defScope st)) (len : ∀ p vs H Q, sp p vs H Q → vs.length = ps.length)
    (body : ∀ (cdv : Value) (A : Around) (outer : List Env) (s : Shared) (H : Hp) (vs : List V) (Q : VK) (p : Addr × Obj), Hot1 A p → RoomH k (A.deeper (envOfC qual (defScope st) s.heap.objs.size f cdv)) → sp p vs H Q →
      ∃ t, PSs (cxP P w K mg base N qual (defScope st) f cdv A outer s H p).nox (defBody st) t ∧ t { nx := fun _ H' => Q .non H', rt := Q } (L2.start N vs) H) : FnP P w K mg base (k + 1) f fd ps sp := by
  obtain ⟨oc, od, kV, doc, pm, an, cdv, ct, osl, rfl, lk, hcd⟩ := F.ex
  refine ⟨len, fun A outer s H us vs Q p hr hot hpin e0 hb r hsp => ?_⟩
  have hl := len _ _ _ _ hsp
  have KX : K.In s.heap := e0.mod.kin.keeps fun b o e => (e0.bs b o e).1
  have lim : s.heap.NoLimit := e0.mod.nolimit.keeps fun b o e => (e0.bs b o e).1
  have kinds : ∀ y ∈ ps.zip us, (defScope st).names.lookup y.1 = some .local ∨
      ((defScope st).names.lookup y.1 = some .cell ∧ ((cellsFrom (s.heap.objs.size + 1) (defScope st).names []).lookup y.1).isSome = true) := by
    rintro ⟨n, v⟩ hy
    rcases S.par n (List.of_mem_zip hy).1 with q | q
    · exact .inl q
    · exact .inr ⟨q, PySem.W.cellsFrom_some _ _ _ (.inl q)⟩
  refine codeAny_call_function hr.depth (KX _ _ lk) rfl S.co S.gen rfl (PySem.W.codeRec_of KX hcd) (hb _ _ _ _ ?_)
  refine wpAny_newFunctionEnv_cells S.kind kinds fun env he s1 x => ?_
  subst he
  refine ⟨lim.keeps x.toInCall.keep, codeAny_func ?_⟩
  obtain ⟨t, ht, hq⟩ := body cdv A outer s H vs Q p hot (hr.deeper _) hsp
  have I := inv_startH (CX := CX0) (E := E0) S hpin e0 hl r x
  refine wpAny_mono (ht.nox.run [] s1 (L2.start N vs) H _ I hq) (fun fl s' hs => ?_) fun e s' hs => hs
  have fin : ∀ {σ' : L2.St} {H' : Hp} {v : V} {u : Value}, Inv (cxP P w K mg base N qual (defScope st) f cdv A outer s H p) [] σ' H' s' → RelV v u → Q v H' → CE outer P w H s Q u s' := by
    intro σ' H' v u J rv q
    exact ⟨v, H', J.os, J.bare, J.base, J.hok, rv, q⟩
  cases fl with
  | ret u => obtain ⟨v, σ', H', J, rv, q⟩ := hs; exact fin J rv q
  | next => obtain ⟨σ', H', J, q⟩ := hs; exact fin (v := V.non) (u := Value.none) J rfl q
  | brk => obtain ⟨_, _, _, q⟩ := hs; exact q.elim
  | cont => obtain ⟨_, _, _, q⟩ := hs; exact q.elim
end
/-! ### such a call -/
def tCallP (sp : (Addr × Obj) → List V → Hp → VK → Prop) (p : Addr × Obj) (t : TA) (σ : L2.St) (H : Hp) (Q : VK) : Prop := t σ H fun vs H1 => sp p vs H1 Q
section
variable {X : Cx} {k : Nat} {f : Addr} {fd : FuncData} {ps : List Str} {sp : (Addr × Obj) → List V → Hp → VK → Prop} {x : Str} {q pos : Pos} {e : Expr} {es : List Expr} {t : TA} {p : Addr × Obj}
theorem pe_callP (F : FnP X.prog X.w X.K X.mg X.base k f fd ps sp) (hr : RoomH k X.A) (hot : Hot1 X.A p) (hp : p ∈ X.pn) (hg : Gl X x) (hm : X.mg x = some (.ref f)) (hk : PySem.W.keepIn X.K (.ref f) = true) (hb : Binds X.K fd ps [])
    (ha : PA X (e :: es) t) (hdb : (x == ("__debug__" : Str)) = false := by decide) (he : starEach (e :: es) X.env = (false, eval e X.env) :: starEach es X.env := by rfl)
    (hpl : (backTo pos (starEach es X.env)).any (·.1) = false := by rfl) : PE X (.Call (.Name x q) (e :: es) [] pos) (tCallP sp p t) := by
  constructor
  intro pins s σ H Q I h
  refine wpAny_Call_Name_kw (ld_glob I hg hm ?_ hdb)
  refine PySem.W.callWith_K (h₀ := X.base) I.ok.mod.kin hk (thn (ha.run pos pins s σ H _ I h) fun us s1 res => ?_) he hpl
  obtain ⟨vs, H1, I1, r, q1⟩ := res
  refine ⟨I1.kIn, ?_⟩
  have hl : us.length = ps.length := by rw [← r.length]; exact F.len _ _ _ _ q1
  have b := hb s1 us I1.kIn (by rw [List.append_nil]; exact hl)
  rw [List.append_nil] at b
  have pin := I1.pin p (List.mem_append_left _ hp)
  have hpin : PinOk X.stack H1 s1 p := by
    refine ⟨pin.1, pin.2.1, fun hm => ?_, pin.2.2.2.2⟩
    rcases List.mem_cons.mp (I1.stkSub p.1 hm) with z | z
    · exact pin.2.2.1 z
    · exact pin.2.2.2.1 z
  refine wpAny_call (codeAny_mono (F.run X.A X.stack s1 H1 us vs Q p hr hot hpin I1.env0 b r q1) fun rr s' hq => ?_)
  cases rr with
  | error e => exact hq.elim
  | ok fl =>
    cases fl with
    | ret u => exact I1.after hq
    | next => exact hq.elim
    | brk => exact hq.elim
    | cont => exact hq.elim
end
end Vf

set_option Elab.async false
set_option linter.all false
set_option maxRecDepth 100000
set_option maxHeartbeats 4000000
namespace Vf
open PySem PySem.Spec PyProof.Rows L2 L2H TL
/-! ### list.count over bools -/
def bEq (k : Bool) : Value → Bool
  | .bool b => b == k
  | _ => false
def rCntB (K : PySem.W.Frag) : V → List V → Hp → VK → Prop := fun x xs H Q => ∃ (p : Addr) (bs : List Bool) (k : Bool), x = .ref p ∧ xs = [.bl k] ∧ SqL K H p (bs.map V.bl) ∧ Q (.int (bs.count k : Nat)) H
theorem bools_of : ∀ {bs : List Bool} {its : List Value}, Vals (bs.map V.bl) its → its = bs.map Value.bool
  | [], _, r => by cases r; rfl
  | b :: bs, _, r => by
    cases r with
    | cons a t =>
      have e : _ = Value.bool b := a
      rw [e, bools_of t]; rfl
theorem count_bools (k : Bool) : ∀ bs : List Bool, (bs.map Value.bool).countP (bEq k) = bs.count k
  | [] => rfl
  | b :: bs => by
    rw [List.map_cons, List.countP_cons, List.count_cons, count_bools k bs]
    rfl
section
variable {X : Cx}
theorem mt_bcount : MtR X "list.count" (rCntB X.K) := by
  intro pins s σ H x xs v us Q I rx rxs h
  obtain ⟨p, bs, k, rfl, rfl, hs, q⟩ := h
  cases rx
  obtain ⟨u, rfl, ru⟩ := rxs.one
  have eu : u = Value.bool k := ru
  subst eu
  obtain ⟨its, rv, ⟨⟨cls, dd, data, sl⟩, n, ho, hc, hdn, hd⟩, hlen⟩ := I.list hs
  simp only at hc hd
  subst hc hd
  have ei := bools_of rv
  subst ei
  refine call_meets PySem.F.slot_list_count ⟨_, ho, rfl⟩ PySem.F.entry_list_count (PySem.F.args_list_count_2 _ _)
    (SeqAt.list_countAt p (bs.map Value.bool).toArray n dd sl (.bool k) (bEq k)) ⟨ho, fun y hy => ?_, ?_⟩
  · obtain ⟨b, _, rfl⟩ := List.mem_map.mp (by simpa only [List.mem_toArray] using hy)
    exact PySem.SeqAt.EqAt.bool_bool b k
  · have ec : (bs.map Value.bool).toArray.toList.countP (bEq k) = bs.count k := count_bools k bs
    refine ⟨.int (bs.count k : Nat), H, I.tok _, ⟨s.toks, ?_⟩, q⟩
    rw [ec]
end
/-! ### an own error made where none is handled, its context noted -/
theorem pmkN_oex {X : Cx} {x : Str} {e : Expr} {es : List Expr} {ta : TA} {p pos : Pos} {C fI : Addr} {k : Nat} {fd : FuncData} {ps : List Str} {sp : Sp} (T : OexC X.K C) (iC : PySem.W.findIn X.K (.ref C) "__init__" = some (some (.ref fI))) (tI : PySem.W.typeIn X.K (.ref fI) = some (.type "function"))
    (F1 : FnOk X.prog X.w X.K X.mg X.base CX0 k fI fd ps sp) (hr : Room (k + 1) X.A) (hb : Binds X.K fd ps []) (hg : Gl X x) (hm : X.mg x = some (.ref C)) (ha : PA X (e :: es) ta)
    (hdb : (x == ("__debug__" : Str)) = false := by decide) (he : starEach (e :: es) X.env = (false, eval e X.env) :: starEach es X.env := by rfl) (hpl : (backTo pos (starEach es X.env)).any (·.1) = false := by rfl) :
    L2N.PMk X (.Call (.Name x p) (e :: es) [] pos) (tMkO C sp [] ta) := by
  intro pins s σ H Q I h
  obtain ⟨nm, q, N, bs, bm, sn, sub, ab, col, dd, k0, k1, k2, k3, k5, hC, hbm⟩ := T.cls
  refine wpAny_Call_Name_kw (ld_glob I hg hm ?_ hdb)
  refine PySem.W.callWith_K (h₀ := X.base) I.ok.mod.kin T.kC (thn (ha.run pos pins s σ H _ I h) fun us s1 ⟨vs, H1, I1, r1, hz, q1⟩ => ⟨I1.kIn, ?_⟩) he hpl
  show wpAny _ _ (call (.ref C) us) _ _ _
  obtain ⟨hp, g, dr, tk, os⟩ := s1
  have lt1 : hp.objs.size ≤ hp.objs.size + 1 := Nat.le_succ _
  have nx : H1 (hp.objs.size + 1) = none := I1.hok.fresh lt1
  have hq := q1 (hp.objs.size + 1) nx
  rw [List.append_nil] at hq
  have k2 : ∀ b o, hp.get? b = some o → ((hp.push (PySem.W.kdv_tup us)).push (PySem.HandSPX.excO C hp.objs.size)).get? b = some o := fun b o e => Heap.get?_push_of_some _ (Heap.get?_push_of_some _ e)
  have at1 : ((hp.push (PySem.W.kdv_tup us)).push (PySem.HandSPX.excO C hp.objs.size)).get? (hp.objs.size + 1) = some (PySem.HandSPX.excO C hp.objs.size) := by heap_get
  have J := I1.laid (t' := tk) (a := hp.objs.size + 1) (o := exo (hp.objs.size + 1) C none) (h' := (hp.push (PySem.W.kdv_tup us)).push (PySem.HandSPX.excO C hp.objs.size)) k2 lt1 (exo_ok at1)
  have rr : Vals (V.ref (hp.objs.size + 1) :: vs) (Value.ref (hp.objs.size + 1) :: us) := .cons rfl r1
  have len1 : (Value.ref (hp.objs.size + 1) :: us ++ []).length = ps.length := by
    rw [List.append_nil, ← rr.length]
    exact F1.len _ _ _ _ hq
  have short : us.length ≤ sizeLine := by rw [← Paired.length r1, sizeLine_eq]; omega
  have bb := hb _ (Value.ref (hp.objs.size + 1) :: us) J.kIn len1
  rw [List.append_nil] at bb
  refine wpAny_call (PySem.HandSPX.call_own F.excBase_ValueError (fun Y => PySem.HandSPX.refsVE_contains Y bm hbm) (I1.kIn _ _ hC) (PySem.W.looks_findIn I1.kIn iC) (fun self => PySem.W.bind_fn I1.kIn self tI) short
    (codeAny_mono (F1.run _ X.stack _ _ ⟨Value.ref (hp.objs.size + 1) :: us, []⟩ (Value.ref (hp.objs.size + 1) :: us) _ _ (fun _ _ _ => False) (hr.make C us []) (J.env0.make C us []) bb rr hq) fun r s' hq' => ?_))
  cases r with
  | error er => exact hq'.elim
  | ok fl =>
    cases fl with
    | ret u =>
      obtain ⟨v, H2, os2, bare2, un2, hok2, rv, ev, d, fs, ea, ed, hd1, q2⟩ := hq'
      subst ev
      obtain ⟨h2, g2, d2, t2, os'⟩ := s'
      obtain ⟨t0, G, J2, kG, ge, hoe, na⟩ := mk_end0 (d2 := d2) (t2 := t2) I1 lt1 k2 un2 hok2 os2 bare2 ea ed hd1
      exact ⟨rv, hp.objs.size + 1, _, _, ⟨G, g2, d2, t2, os'⟩, _, .ref C, some d, rfl, J2, kG, ge, hoe, ⟨rfl, rfl, fun vs hv => by cases hv; rfl⟩, rfl, rfl, na, rfl, bare2, raises_own T.exC T.tyC, q2⟩
    | next => exact hq'.elim
    | brk => exact hq'.elim
    | cont => exact hq'.elim
/-- a def that may raise, its exceptions' contexts noted -/
theorem okN {P : Program} {w : World} {K : PySem.W.Frag} {mg : Str → Option Value} {base : Heap} {x qual : Str} {st : Stmt} {f : Addr} {fd : FuncData} {N ps : List Str} {k : Nat} {sp : Sp} (F : L2.Fun K x qual st f fd) (S : FnScope N ps (defScope st)) (len : ∀ vs H Q E, sp vs H Q E → vs.length = ps.length)
    (body : ∀ (cdv : Value) (A : Around) (outer : List Env) (s : Shared) (H : Hp) (vs : List V) (Q : VK) (E : XK), Room k (A.deeper (envOfC qual (defScope st) s.heap.objs.size f cdv)) → sp vs H Q E →
      ∃ t, PSs (cxOf (L2N.CX P w) P w K mg base N qual (defScope st) f cdv A outer s H E) (defBody st) t ∧ t { nx := fun _ H' => Q .non H', rt := Q } (L2.start N vs) H) : FnOk P w K mg base (L2N.CX P w) (k + 1) f fd ps sp := by
  obtain ⟨oc, od, kV, doc, pm, an, cdv, ct, osl, rfl, lk, hcd⟩ := F.ex
  exact fn_of lk hcd S len fun A outer s H vs Q E hr hsp => body cdv A outer s H vs Q E hr hsp
/-! ### C(v), __init__ keeps its one field -/
def spInit1 (C : Addr) (f : Str) : Sp := fun vs H Q _ => ∃ (a : Addr) (y : V), vs = [.ref a, y] ∧ H a = some (exo a C none) ∧
  ∀ dx, H dx = none → dx ≠ a → Q .non (upd (upd H dx (exd dx [(f, y)])) a (exo a C (some dx)))
section
variable {P : Program} {w : World} {K : PySem.W.Frag} {mg : Str → Option Value} {base : Heap}
theorem ok_TooWide (T : Txt K mg) : FnOk P w K mg base CX0 1 T.i_TooWide T.d_TooWide ["self", "part"] (spInit1 T.c_TooWide "part") := by
  refine T.E_TooWide.F.ok sc_TooWide_init (fun vs H Q E h => ?_) (fun cdv A outer s H vs Q E hr h => ?_)
  · obtain ⟨a, y, rfl, _⟩ := h
    rfl
  · obtain ⟨a, y, rfl, ea, q⟩ := h
    refine ⟨_, pss_one (ps_ost (pv 0) (pv 1)), ?_⟩
    exact ⟨_, rfl, _, rfl, a, T.c_TooWide, rfl, T.E_TooWide.O, T.E_TooWide.no "part" (by simp), .inl ⟨ea, fun dx nd ne => q dx nd ne⟩⟩
end
/-- what the raise of C(y) leaves -/
theorem raise1 {C : Addr} {f : Str} {y : V} {H : Hp} {E : XK} (q : ∀ H' d, Same H H' → H' d = some (.xd [(f, y)]) → E (.ref C) (some d) H') :
    [y].length ≤ 1000 ∧ ∀ a, H a = none → spInit1 C f (.ref a :: ([y] ++ [])) (upd H a (exo a C none))
      (fun v H2 => v = .non ∧ ∃ (d : Addr) (fs : List (Str × V)), H2 a = some (exo a C (some d)) ∧ H2 d = some (exd d fs) ∧ H d = none ∧ E (.ref C) (some d) (upd (del H2 a) d (.xd fs))) (fun _ _ _ => False) := by
  refine ⟨by show 1 ≤ 1000; decide, fun a na => ⟨a, y, rfl, upd_same, fun dx nd ne => ⟨rfl, dx, _, upd_same, by rw [upd_ne ne]; exact upd_same, by rw [upd_ne ne] at nd; exact nd, q _ _ (fun b o e => ?_) upd_same⟩⟩⟩
  have nd2 : H dx = none := by rw [upd_ne ne] at nd; exact nd
  have hb1 : b ≠ a := ne_of_none e na
  have hb2 : b ≠ dx := ne_of_none e nd2
  rw [upd_ne hb2, del_ne hb1, upd_ne hb1, upd_ne hb2, upd_ne hb1]
  exact e
end Vf

set_option Elab.async false
set_option linter.all false
set_option maxRecDepth 100000
set_option maxHeartbeats 4000000
namespace Vf
open PySem PySem.Spec PyProof.Rows L2 L2H TL
section
variable {P : Program} {w : World} {K : PySem.W.Frag} {mg : Str → Option Value} {base : Heap}
def spTold1 (K : PySem.W.Frag) (D : Addr) (n f : Str) : (Addr × Obj) → List V → Hp → VK → Prop := fun p vs H Q => vs = [.ref p.1] ∧ ∃ (d : Addr) (y : V), ExcAt K D d p ∧ H d = some (.xd [(f, y)]) ∧
  ∀ H' c, Same H H' → H' c = some (.tup [.str n, y]) → Q (.ref c) H'
theorem not_dec {p : Prop} [Decidable p] (h : p) : (!decide p) = false := by rw [decide_eq_true h]; rfl
theorem ok_told_TooWide (T : Txt K mg) : FnP P w K mg base 1 T.a_law_told_error T.d_law_told_error ["_law_e"] (spTold1 K T.c_TooWide "TooWide" "part") := by
  refine FnP.of T.D_law_told_error.F sc_law_told_error (fun p vs H Q h => ?_) (fun cdv A outer s H vs Q p hot hr h => ?_)
  · obtain ⟨rfl, _⟩ := h
    rfl
  · obtain ⟨rfl, d, y, hx, hd, q⟩ := h
    refine ⟨_, (pss_cons (ps_set (i := 1) sc_law_told_error.nd rfl (.inl rfl) (pe_lst pa_nil))
      (pss_cons (ps_if (pt_val (pe_callB (call_isP T.E_TooWide.EC hx (List.mem_singleton.mpr rfl)) (by rfl) T.n_isinstance (by decide +kernel) (pa_cons (pv 0) (pa_cons (pe_glob (v := .ref T.c_BadText) (by rfl) T.C_BadText.G rfl) pa_nil)))) (pss_one ps_never) pss_nil)
      (pss_cons (ps_if (pt_val (pe_callB (call_isP T.E_TooWide.EC hx (List.mem_singleton.mpr rfl)) (by rfl) T.n_isinstance (by decide +kernel) (pa_cons (pv 0) (pa_cons (pe_glob (v := .ref T.c_BadCall) (by rfl) T.C_BadCall.G rfl) pa_nil)))) (pss_one ps_never) pss_nil)
      (pss_cons (ps_if (pt_val (pe_callB (call_isP T.E_TooWide.EC hx (List.mem_singleton.mpr rfl)) (by rfl) T.n_isinstance (by decide +kernel) (pa_cons (pv 0) (pa_cons (pe_glob (v := .ref T.c_Misplaced) (by rfl) T.C_Misplaced.G rfl) pa_nil)))) (pss_one ps_never) pss_nil)
      (pss_cons (ps_if (pt_val (pe_callB (call_isP T.E_TooWide.EC hx (List.mem_singleton.mpr rfl)) (by rfl) T.n_isinstance (by decide +kernel) (pa_cons (pv 0) (pa_cons (pe_glob (v := .ref T.c_Unknown) (by rfl) T.C_Unknown.G rfl) pa_nil)))) (pss_one ps_never) pss_nil)
      (pss_cons (ps_if (pt_val (pe_callB (call_isP T.E_TooWide.EC hx (List.mem_singleton.mpr rfl)) (by rfl) T.n_isinstance (by decide +kernel) (pa_cons (pv 0) (pa_cons (pe_glob (v := .ref T.c_Twice) (by rfl) T.C_Twice.G rfl) pa_nil)))) (pss_one ps_never) pss_nil)
      (pss_cons (ps_if (pt_val (pe_callB (call_isP T.E_TooWide.EC hx (List.mem_singleton.mpr rfl)) (by rfl) T.n_isinstance (by decide +kernel) (pa_cons (pv 0) (pa_cons (pe_glob (v := .ref T.c_TooLong) (by rfl) T.C_TooLong.G rfl) pa_nil)))) (pss_one ps_never) pss_nil)
      (pss_cons (ps_if (pt_val (pe_callB (call_isP T.E_TooWide.EC hx (List.mem_singleton.mpr rfl)) (by rfl) T.n_isinstance (by decide +kernel) (pa_cons (pv 0) (pa_cons (pe_glob (v := .ref T.c_TooLarge) (by rfl) T.C_TooLarge.G rfl) pa_nil)))) (pss_one ps_never) pss_nil)
      (pss_cons (ps_if (pt_val (pe_callB (call_isP T.E_TooWide.EC hx (List.mem_singleton.mpr rfl)) (by rfl) T.n_isinstance (by decide +kernel) (pa_cons (pv 0) (pa_cons (pe_glob (v := .ref T.c_TooMany) (by rfl) T.C_TooMany.G rfl) pa_nil)))) (pss_one ps_never) pss_nil)
      (pss_cons (ps_if (pt_val (pe_callB (call_isP T.E_TooWide.EC hx (List.mem_singleton.mpr rfl)) (by rfl) T.n_isinstance (by decide +kernel) (pa_cons (pv 0) (pa_cons (pe_glob (v := .ref T.c_TooWide) (by rfl) T.C_TooWide.G rfl) pa_nil)))) (pss_one (ps_expr (pe_bm PySem.F.plainAttrs_list PySem.F.slot_list_append PySem.F.type_list_append mt_append (pv 1) (pa_cons (pe_tup (pa_cons pe_str (pa_cons (pe_xp T.E_TooWide.XC (T.E_TooWide.no "part" (by simp)) hx (List.mem_singleton.mpr rfl) (pv 0)) pa_nil))) pa_nil)))) pss_nil)
      (pss_cons (ps_if (pt_val (pe_callB (call_isP T.E_TooWide.EC hx (List.mem_singleton.mpr rfl)) (by rfl) T.n_isinstance (by decide +kernel) (pa_cons (pv 0) (pa_cons (pe_glob (v := .ref T.c_TooTall) (by rfl) T.C_TooTall.G rfl) pa_nil)))) (pss_one ps_never) pss_nil)
      (pss_cons (ps_if (pt_val (pe_callB (call_isP T.E_TooWide.EC hx (List.mem_singleton.mpr rfl)) (by rfl) T.n_isinstance (by decide +kernel) (pa_cons (pv 0) (pa_cons (pe_glob (v := .ref T.c_BadStyle) (by rfl) T.C_BadStyle.G rfl) pa_nil)))) (pss_one ps_never) pss_nil)
      (pss_cons (ps_if (pt_val (pe_callB (call_isP T.E_TooWide.EC hx (List.mem_singleton.mpr rfl)) (by rfl) T.n_isinstance (by decide +kernel) (pa_cons (pv 0) (pa_cons (pe_glob (v := .ref T.c_BadSecret) (by rfl) T.C_BadSecret.G rfl) pa_nil)))) (pss_one ps_never) pss_nil)
      (pss_cons (ps_if (pt_val (pe_callB (call_isP T.E_TooWide.EC hx (List.mem_singleton.mpr rfl)) (by rfl) T.n_isinstance (by decide +kernel) (pa_cons (pv 0) (pa_cons (pe_glob (v := .ref T.c_BadEnding) (by rfl) T.C_BadEnding.G rfl) pa_nil)))) (pss_one ps_never) pss_nil)
      (pss_cons (ps_if (pt_val (pe_callB (call_isP T.E_TooWide.EC hx (List.mem_singleton.mpr rfl)) (by rfl) T.n_isinstance (by decide +kernel) (pa_cons (pv 0) (pa_cons (pe_glob (v := .ref T.c_NoStem) (by rfl) T.C_NoStem.G rfl) pa_nil)))) (pss_one ps_never) pss_nil)
      (pss_cons (ps_if (pt_val (pe_callB (call_isP T.E_TooWide.EC hx (List.mem_singleton.mpr rfl)) (by rfl) T.n_isinstance (by decide +kernel) (pa_cons (pv 0) (pa_cons (pe_glob (v := .ref T.c_Untrue) (by rfl) T.C_Untrue.G rfl) pa_nil)))) (pss_one ps_never) pss_nil)
      (pss_cons (ps_if (pt_val (pe_callB (call_isP T.E_TooWide.EC hx (List.mem_singleton.mpr rfl)) (by rfl) T.n_isinstance (by decide +kernel) (pa_cons (pv 0) (pa_cons (pe_glob (v := .ref T.c_BadFile) (by rfl) T.C_BadFile.G rfl) pa_nil)))) (pss_one ps_never) pss_nil)
      (pss_cons (ps_if (pt_val (pe_callB (call_isP T.E_TooWide.EC hx (List.mem_singleton.mpr rfl)) (by rfl) T.n_isinstance (by decide +kernel) (pa_cons (pv 0) (pa_cons (pe_glob (v := .ref T.c_BadStep) (by rfl) T.C_BadStep.G rfl) pa_nil)))) (pss_one ps_never) pss_nil)
      (pss_cons (ps_set (i := 2) sc_law_told_error.nd rfl (.inl rfl) (pe_lst (pa_cons (pe_callB (call_isP T.E_TooWide.EC hx (List.mem_singleton.mpr rfl)) (by rfl) T.n_isinstance (by decide +kernel) (pa_cons (pv 0) (pa_cons (pe_glob (v := .ref T.c_RecordError) (by rfl) T.C_RecordError.G rfl) pa_nil))) (pa_cons (pe_callB (call_isP T.E_TooWide.EC hx (List.mem_singleton.mpr rfl)) (by rfl) T.n_isinstance (by decide +kernel) (pa_cons (pv 0) (pa_cons (pe_glob (v := .ref T.c_LimitError) (by rfl) T.C_LimitError.G rfl) pa_nil))) (pa_cons (pe_callB (call_isP T.E_TooWide.EC hx (List.mem_singleton.mpr rfl)) (by rfl) T.n_isinstance (by decide +kernel) (pa_cons (pv 0) (pa_cons (pe_glob (v := .ref T.c_GivenError) (by rfl) T.C_GivenError.G rfl) pa_nil))) pa_nil)))))
      (pss_cons (ps_if (PW.pt (pw_or (pt_cmpR op_ne (pe_callB call_len_seq (by rfl) T.n_len PySem.boot_len (pa_cons (pv 1) pa_nil)) pe_int (nomark _)) (pw_or (pt_cmpR op_ne (pe_bm PySem.F.plainAttrs_list PySem.F.slot_list_count PySem.F.type_list_count mt_bcount (pv 2) (pa_cons pe_bl pa_nil)) pe_int (nomark _)) (pw_or1 (pt_not (pt_val (pe_callB (call_isP T.E_TooWide.EC hx (List.mem_singleton.mpr rfl)) (by rfl) T.n_isinstance (by decide +kernel) (pa_cons (pv 0) (pa_cons (pe_bltn (v := .ty "ValueError") (by rfl) T.n_ValueError (by decide +kernel) rfl) pa_nil))))))))) (pss_one (ps_ret pe_non)) pss_nil)
      (pss_one (ps_ret (pe_ix ix_list (pv 1) pe_int (fun _ _ => rfl)))))))))))))))))))))))), ?_⟩
    refine ⟨by show 0 ≤ sizeLine; decide, fun l nl => ?_⟩
    have S0 : Same H (upd H l (.lst [])) := same_upd (Same.refl H) nl
    refine ⟨_, rfl, _, _, false, _, rfl, .own _, T.k_TooWide_BadText, S0 _ _ hd, _, rfl, ?_⟩
    refine ⟨_, rfl, _, _, false, _, rfl, .own _, T.k_TooWide_BadCall, S0 _ _ hd, _, rfl, ?_⟩
    refine ⟨_, rfl, _, _, false, _, rfl, .own _, T.k_TooWide_Misplaced, S0 _ _ hd, _, rfl, ?_⟩
    refine ⟨_, rfl, _, _, false, _, rfl, .own _, T.k_TooWide_Unknown, S0 _ _ hd, _, rfl, ?_⟩
    refine ⟨_, rfl, _, _, false, _, rfl, .own _, T.k_TooWide_Twice, S0 _ _ hd, _, rfl, ?_⟩
    refine ⟨_, rfl, _, _, false, _, rfl, .own _, T.k_TooWide_TooLong, S0 _ _ hd, _, rfl, ?_⟩
    refine ⟨_, rfl, _, _, false, _, rfl, .own _, T.k_TooWide_TooLarge, S0 _ _ hd, _, rfl, ?_⟩
    refine ⟨_, rfl, _, _, false, _, rfl, .own _, T.k_TooWide_TooMany, S0 _ _ hd, _, rfl, ?_⟩
    refine ⟨_, rfl, _, _, true, _, rfl, .own _, T.k_TooWide_TooWide, S0 _ _ hd, _, rfl, ?_⟩
    refine ⟨.ref l, rfl, .inl ⟨rfl, _, SqL.of upd_same⟩, ?_⟩
    refine ⟨_, rfl, rfl, _, _, S0 _ _ hd, rfl, by show 2 ≤ sizeLine; decide, fun c nc => ?_⟩
    have S1 := same_upd (o := .tup [.str "TooWide", y]) S0 nc
    have ncl : c ≠ l := fun e => by rw [e, upd_same] at nc; cases nc
    have el : upd (upd H l (.lst [])) c (.tup [.str "TooWide", y]) l = some (.lst []) := by rw [upd_ne ncl.symm]; exact upd_same
    refine ⟨l, _, _, rfl, rfl, el, szN (by decide), ?_⟩
    have S2 := same_mut (o := .lst ([] ++ [V.ref c])) S1 nl
    have hd2 := S2 _ _ hd
    have hc2 : upd (upd (upd H l (.lst [])) c (.tup [.str "TooWide", y])) l (.lst ([] ++ [V.ref c])) c = some (.tup [.str "TooWide", y]) := by rw [upd_ne ncl]; exact upd_same
    refine ⟨_, rfl, _, _, false, _, rfl, .own _, T.k_TooWide_TooTall, hd2, _, rfl, ?_⟩
    refine ⟨_, rfl, _, _, false, _, rfl, .own _, T.k_TooWide_BadStyle, hd2, _, rfl, ?_⟩
    refine ⟨_, rfl, _, _, false, _, rfl, .own _, T.k_TooWide_BadSecret, hd2, _, rfl, ?_⟩
    refine ⟨_, rfl, _, _, false, _, rfl, .own _, T.k_TooWide_BadEnding, hd2, _, rfl, ?_⟩
    refine ⟨_, rfl, _, _, false, _, rfl, .own _, T.k_TooWide_NoStem, hd2, _, rfl, ?_⟩
    refine ⟨_, rfl, _, _, false, _, rfl, .own _, T.k_TooWide_Untrue, hd2, _, rfl, ?_⟩
    refine ⟨_, rfl, _, _, false, _, rfl, .own _, T.k_TooWide_BadFile, hd2, _, rfl, ?_⟩
    refine ⟨_, rfl, _, _, false, _, rfl, .own _, T.k_TooWide_BadStep, hd2, _, rfl, ?_⟩
    refine ⟨_, rfl, _, _, false, _, rfl, .own _, T.k_TooWide_RecordError, hd2, _, rfl, _, _, true, _, rfl, .own _, T.k_TooWide_LimitError, hd2, _, rfl, _, _, false, _, rfl, .own _, T.k_TooWide_GivenError, hd2, by show 3 ≤ sizeLine; decide, fun g ng => ?_⟩
    have S3 := same_upd (o := .lst [V.bl false, .bl true, .bl false]) S2 ng
    have el2 : upd (upd (upd H l (.lst [])) c (.tup [.str "TooWide", y])) l (.lst ([] ++ [V.ref c])) l = some (.lst ([] ++ [V.ref c])) := upd_same
    have ngl := ne_of_none el2 ng
    have el3 : upd (upd (upd (upd H l (.lst [])) c (.tup [.str "TooWide", y])) l (.lst ([] ++ [V.ref c]))) g (.lst [V.bl false, .bl true, .bl false]) l = some (.lst ([] ++ [V.ref c])) := by rw [upd_ne ngl]; exact el2
    have hc3 : upd (upd (upd (upd H l (.lst [])) c (.tup [.str "TooWide", y])) l (.lst ([] ++ [V.ref c]))) g (.lst [V.bl false, .bl true, .bl false]) c = some (.tup [.str "TooWide", y]) := by rw [upd_ne (ne_of_none hc2 ng)]; exact hc2
    refine ⟨_, rfl, l, _, rfl, .inl (SqL.of el3), rfl, false, congrArg V.bl (not_dec rfl), ?_⟩
    refine ⟨.ref g, rfl, .inl ⟨rfl, _, SqL.of upd_same⟩, g, [false, true, false], true, rfl, rfl, SqL.of upd_same, rfl, false, congrArg V.bl (not_dec rfl), ?_⟩
    refine ⟨_, rfl, _, _, true, _, rfl, .ty _, T.v_TooWide, S3 _ _ hd, _, rfl, ?_⟩
    exact ⟨_, rfl, l, _, 0, _, rfl, rfl, SqL.of el3, rfl, q _ c S3 hc3⟩
end
theorem takesN0 {X : Cx} : L2N.Takes X (fun _ _ _ _ => False) := fun _ _ x => by
  obtain ⟨_, _, _, _, _, _, _, _, _, _, _, _, _, _, _, _, z⟩ := x
  exact z.elim
/-! ### calls within an except suite -/
section
variable {X : Cx} {k : Nat} {f : Addr} {fd : FuncData} {ps : List Str} {x : Str} {q pos : Pos} {e : Expr} {es : List Expr} {t : TA} {a : Addr} {oe : Obj} {cls : Value} {d : Option Addr} {pn : List (Addr × Obj)}
theorem hot_suite (hz : L2N.Zn cls d oe) (hf : ∃ vs, oe.data = .fields vs) : L2H.Hot1 (X.suite a ((a, oe) :: pn)).A (a, oe) := by
  obtain ⟨vs, hv⟩ := hf
  exact ⟨rfl, vs, hv, hz.2.2 vs hv⟩
/-- a call whose promise doesn't speak of the exception -/
def tCallE (sp : List V → Hp → VK → Prop) (t : TA) : TE := fun σ H Q => t σ H fun vs H1 => sp vs H1 Q
theorem pe_callE {sp : List V → Hp → VK → Prop} (hz : L2N.Zn cls d oe) (hf : ∃ vs, oe.data = .fields vs) (F : FnP X.prog X.w X.K X.mg X.base k f fd ps (fun _ => sp)) (hr : Room k X.A) (hg : Gl (X.suite a ((a, oe) :: pn)) x) (hm : X.mg x = some (.ref f)) (hk : PySem.W.keepIn X.K (.ref f) = true) (hb : Binds X.K fd ps [])
    (ha : PA (X.suite a ((a, oe) :: pn)) (e :: es) t) (hdb : (x == ("__debug__" : Str)) = false := by decide) (he : starEach (e :: es) X.env = (false, eval e X.env) :: starEach es X.env := by rfl)
    (hpl : (backTo pos (starEach es X.env)).any (·.1) = false := by rfl) : PE (X.suite a ((a, oe) :: pn)) (.Call (.Name x q) (e :: es) [] pos) (tCallE sp t) :=
  pe_callP (X := X.suite a ((a, oe) :: pn)) (p := (a, oe)) F ⟨hr.dp, hr.un⟩ (hot_suite hz hf) List.mem_cons_self hg hm hk hb ha hdb he hpl
/-- what the law's told_error tells of the exception -/
def tTold (D : Addr) (n f : Str) (a : Addr) (cls : Value) (d : Option Addr) (i : Nat) : TE := fun σ H Q => tVar i σ H fun x H1 => x = .ref a ∧ cls = .ref D ∧ ∃ (dd : Addr) (y : V), d = some dd ∧ H1 dd = some (.xd [(f, y)]) ∧
  ∀ H' c, Same H1 H' → H' c = some (.tup [.str n, y]) → Q (.ref c) H'
theorem pe_told {D : Addr} {n g : Str} {i : Nat} {y : Str} {py : Pos} (hz : L2N.Zn cls d oe) (hf : ∃ vs, oe.data = .fields vs) (F : FnP X.prog X.w X.K X.mg X.base k f fd ps (spTold1 X.K D n g)) (hr : Room k X.A) (hg : Gl (X.suite a ((a, oe) :: pn)) x) (hm : X.mg x = some (.ref f)) (hk : PySem.W.keepIn X.K (.ref f) = true) (hb : Binds X.K fd ps [])
    (hv : PE (X.suite a ((a, oe) :: pn)) (.Name y py) (tVar i)) (hdb : (x == ("__debug__" : Str)) = false := by decide) : PE (X.suite a ((a, oe) :: pn)) (.Call (.Name x q) [.Name y py] [] pos) (tTold D n g a cls d i) := by
  have h := pe_callP (X := X.suite a ((a, oe) :: pn)) (p := (a, oe)) (q := q) (pos := pos) F ⟨hr.dp, hr.un⟩ (hot_suite hz hf) List.mem_cons_self hg hm hk hb (pa_cons hv pa_nil) hdb rfl rfl
  refine ⟨fun pins s σ H Q I h2 => h.run pins s σ H Q I ?_⟩
  obtain ⟨v, hvv, ev, ec, dd, y, ed, hd, q⟩ := h2
  subst ev ec ed
  exact ⟨_, hvv, rfl, dd, y, ⟨hz.zc, hf⟩, hd, q⟩
end
end Vf

set_option Elab.async false
set_option linter.all false
set_option maxRecDepth 100000
set_option maxHeartbeats 4000000
namespace Vf
open PySem PySem.Spec PyProof.Rows L2 TL
/-! ### tables as strips -/
abbrev Wrd := List Nat × Nat
abbrev Cel := Nat × List Wrd
def celAt (row : List Cel) (t : Nat) : Cel := row.getD t (0, [])
def wrdAt (ws : List Wrd) (t : Nat) : Wrd := ws.getD t ([], 0)
theorem celAt_at {row : List Cel} {t : Nat} (h : t < row.length) : row[t]? = some (celAt row t) := by
  unfold celAt
  rw [List.getD_eq_getElem?_getD, List.getElem?_eq_getElem h]; rfl
theorem wrdAt_at {ws : List Wrd} {t : Nat} (h : t < ws.length) : ws[t]? = some (wrdAt ws t) := by
  unfold wrdAt
  rw [List.getD_eq_getElem?_getD, List.getElem?_eq_getElem h]; rfl
def wdS (S : Sty) (y : Wrd) : Stp := pieceS S y.1 y.2 0 0
def csN (S : Sty) (ws : List Wrd) : Nat → List Stp
  | 0 => []
  | n + 1 => (csN S ws n ++ if n = 0 then [] else [blankS 1]) ++ [wdS S (wrdAt ws n)]
theorem csN_len (S : Sty) (ws : List Wrd) : ∀ n, (csN S ws n).length = 2 * n - 1
  | 0 => rfl
  | n + 1 => by
    show ((csN S ws n ++ if n = 0 then [] else [blankS 1]) ++ [_]).length = _
    rw [List.length_append, List.length_append, csN_len S ws n]
    by_cases c : n = 0
    · rw [if_pos c, c]; rfl
    · rw [if_neg c]
      show 2 * n - 1 + 1 + 1 = _
      omega
def cellS (S : Sty) (ws : List Wrd) : Stp := jnS (csN S ws ws.length)
structure WsOk (ws : List Wrd) : Prop where
  ln : ws.length ≤ 7
  wd : ∀ y ∈ ws, WdOk y.1 ∧ 0 < y.1.length ∧ y.2 ≤ 1
theorem WsOk.at {ws : List Wrd} (h : WsOk ws) {t : Nat} (ht : t < ws.length) : WdOk (wrdAt ws t).1 ∧ 0 < (wrdAt ws t).1.length ∧ (wrdAt ws t).2 ≤ 1 := h.wd _ (List.mem_of_getElem? (wrdAt_at ht))
theorem wd_small {S : Sty} (st : StyOk S) {z : List Nat} (wd : WdOk z) : (pcN S z 0 0).length ≤ 100 := pieceW_small st _ _ wd eA_le
/-- strips with as long covers, short ones -/
def Shr (b : Nat) (s : Stp) : Prop := EqL s ∧ s.1.length ≤ b
theorem wdS_shr {S : Sty} (st : StyOk S) {y : Wrd} (wd : WdOk y.1) : Shr 100 (wdS S y) := ⟨piece_eq _ _ _ _ _, by show (pieceS S y.1 y.2 0 0).1.length ≤ 100; rw [piece_sg]; exact wd_small st wd⟩
theorem blank_shr {n b : Nat} (h : n ≤ b) : Shr b (blankS n) := ⟨blank_eq n, by show (List.replicate n 32).length ≤ b; rw [List.length_replicate]; exact h⟩
theorem csN_shr {S : Sty} (st : StyOk S) {ws : List Wrd} (ok : WsOk ws) : ∀ n, n ≤ ws.length → ∀ s ∈ csN S ws n, Shr 100 s
  | 0, _, s, h => by cases h
  | n + 1, hn, s, h => by
    rcases List.mem_append.mp h with h | h
    · rcases List.mem_append.mp h with h | h
      · exact csN_shr st ok n (by omega) s h
      · by_cases c : n = 0
        · rw [if_pos c] at h; cases h
        · rw [if_neg c] at h
          rw [List.mem_singleton.mp h]; exact blank_shr (by decide)
    · rw [List.mem_singleton.mp h]
      exact wdS_shr st (ok.at (show n < ws.length by omega)).1
theorem flat_shr {b : Nat} : ∀ {ss : List Stp}, (∀ s ∈ ss, Shr b s) → (ss.flatMap (·.1)).length ≤ ss.length * b ∧ (ss.flatMap (·.1)).length = (ss.flatMap (·.2.1)).length
  | [], _ => ⟨Nat.zero_le _, rfl⟩
  | s :: ss, h => by
    have ⟨h1, h2⟩ := h s List.mem_cons_self
    have ⟨i1, i2⟩ := flat_shr fun x hx => h x (List.mem_cons_of_mem _ hx)
    rw [List.flatMap_cons, List.flatMap_cons, List.length_append, List.length_append, h1.1, i2, List.length_cons, Nat.succ_mul]
    refine ⟨?_, rfl⟩
    have := h1.1
    omega
/-- many short strips joined -/
theorem jn_ok {b : Nat} {ss : List Stp} (h : ∀ s ∈ ss, Shr b s) (hn : ss.length ≤ 1000) (hb : ss.length * b ≤ 90000) : JnOk ss ∧ EqL' (jnS ss) ∧ (jnS ss).1.length ≤ ss.length * b := by
  have ⟨h1, h2⟩ := flat_shr h
  have h3 := trs_le 0 fun s hs => (h s hs).1.2
  refine ⟨⟨hn, by show (ss.flatMap (·.1)).length ≤ _; omega, by show (ss.flatMap (·.2.1)).length ≤ _; omega, by show (trsS 0 ss).length ≤ _; omega⟩, ⟨h2, by show (trsS 0 ss).length ≤ _; omega⟩, h1⟩
section
variable {P : Program} {w : World} {K : PySem.W.Frag} {mg : Str → Option Value} {base : Heap}
def spWordS : Sp := fun vs H Q _ => ∃ (v : V) (S : Sty) (y : Wrd), vs = [v, sV y.1, nV y.2] ∧ StyV H v S ∧ StyOk S ∧ WdOk y.1 ∧ 0 < y.1.length ∧ ∀ H' x, Same H H' → StpV H' x (wdS S y) → Q x H'
theorem ok_word_strip (T : Txt K mg) : FnOk P w K mg base CX0 7 T.a_word_strip T.d_word_strip ["style", "word", "struck"] spWordS := by
  have G_piece_strip : FnOk P w K mg base CX0 6 T.a_piece_strip T.d_piece_strip ["style", "word", "struck", "first", "last"] spPiece := ok_piece T
  refine T.D_word_strip.F.ok sc_word_strip (fun vs H Q E h => ?_) (fun cdv A outer s H vs Q E hr h => ?_)
  · obtain ⟨_, _, _, rfl, _⟩ := h
    rfl
  · obtain ⟨v, S, y, rfl, sv, st, wd, h0, q⟩ := h
    refine ⟨_, (pss_one (ps_ret (pe_call G_piece_strip (hr.mono (by decide)) (by rfl) T.D_piece_strip.G T.D_piece_strip.F.kp T.D_piece_strip.B .nil pass0 (pa_cons (pv 0) (pa_cons (pv 1) (pa_cons (pv 2) (pa_cons pe_int (pa_cons pe_int pa_nil)))))))), ?_⟩
    exact ⟨_, rfl, _, rfl, _, rfl, v, S, y.1, y.2, 0, 0, rfl, sv, st, wd, h0, Nat.zero_le _, Nat.zero_le _, .inl rfl, q⟩
def spCellS : Sp := fun vs H Q _ => ∃ (v : V) (wa : Addr) (us : List V) (S : Sty) (ws : List Wrd), vs = [v, .ref wa] ∧ StyV H v S ∧ StyOk S ∧ H wa = some (.tup us) ∧ LV (WkV H) us ws ∧ WsOk ws ∧ ∀ H' x, Same H H' → StpV H' x (cellS S ws) → Q x H'
theorem ok_cell_strip (T : Txt K mg) : FnOk P w K mg base CX0 8 T.a_cell_strip T.d_cell_strip ["style", "words"] spCellS := by
  have G_word_strip : FnOk P w K mg base CX0 7 T.a_word_strip T.d_word_strip ["style", "word", "struck"] spWordS := ok_word_strip T
  have G_blank_strip : FnOk P w K mg base CX0 2 T.a_blank_strip T.d_blank_strip ["width"] spBlank := ok_blank T
  have G_joined : FnOk P w K mg base CX0 1 T.a_joined T.d_joined ["strips"] spJoined := ok_joined T
  refine T.D_cell_strip.F.ok sc_cell_strip (fun vs H Q E h => ?_) (fun cdv A outer s H vs Q E hr h => ?_)
  · obtain ⟨_, _, _, _, _, rfl, _⟩ := h
    rfl
  · obtain ⟨v, wa, us, S, ws, rfl, sv, st, ea, lw, ok, q⟩ := h
    have l7 := ok.ln
    have lus := lw.1
    refine ⟨_, (pss_cons (ps_set (i := 2) sc_cell_strip.nd rfl (.inl rfl) (pe_lst pa_nil))
      (pss_cons (ps_for PassesOwn.never rfl (pi_tup (pv 1)) (pg_tup (by rfl) (pgs_cons (pg_name (i := 3) sc_cell_strip.nd rfl (.inl rfl)) (pgs_cons (pg_name (i := 4) sc_cell_strip.nd rfl (.inl rfl)) pgs_nil))) (pss_cons (ps_if (pt_cmpR op_gt (pe_callB call_len_seq (by rfl) T.n_len PySem.boot_len (pa_cons (pv 2) pa_nil)) pe_int (nomark _)) (pss_one (ps_expr (pe_bm PySem.F.plainAttrs_list PySem.F.slot_list_append PySem.F.type_list_append mt_append (pv 2) (pa_cons (pe_call G_blank_strip (hr.mono (by decide)) (by rfl) T.D_blank_strip.G T.D_blank_strip.F.kp T.D_blank_strip.B .nil pass0 (pa_cons pe_int pa_nil)) pa_nil)))) pss_nil)
      (pss_one (ps_expr (pe_bm PySem.F.plainAttrs_list PySem.F.slot_list_append PySem.F.type_list_append mt_append (pv 2) (pa_cons (pe_call G_word_strip (hr.mono (by decide)) (by rfl) T.D_word_strip.G T.D_word_strip.F.kp T.D_word_strip.B .nil pass0 (pa_cons (pv 0) (pa_cons (pv 3) (pa_cons (pv 4) pa_nil)))) pa_nil))))))
      (pss_one (ps_ret (pe_call G_joined (hr.mono (by decide)) (by rfl) T.D_joined.G T.D_joined.F.kp T.D_joined.B .nil pass0 (pa_cons (pv 2) pa_nil)))))), ?_⟩
    refine ⟨by show 0 ≤ sizeLine; decide, fun D nD => ?_⟩
    have k1 := same_upd (o := .lst []) (Same.refl H) nD
    have eD : upd H D (.lst []) D = some (.lst []) := upd_same
    generalize upd H D (.lst []) = H1 at k1 eD
    refine ⟨_, rfl, wa, rfl, ⟨_, SqT.of (k1 _ _ ea)⟩, ?_⟩
    refine for_it (walk_tup (K := K) (a := wa) (xs := us)) (fun n σ' H' => ∃ (x3 x4 : Option V) (zs : List V), σ' = [some v, some (.ref wa), some (.ref D), x3, x4] ∧ Same H H' ∧ H' D = some (.lst zs) ∧ LV (StpV H') zs (csN S ws n)) ⟨_, _, [], rfl, k1, eD, LV.nil⟩ ?_ ?_ ?_
    · rintro i σ1 H' _ ⟨_, _, _, _, k, _⟩
      exact SqT.of (k _ _ ea)
    · rintro n x σ1 Ha H2 hn ⟨x3, x4, zs, rfl, k2, eD2, lz⟩ ⟨rfl, hx⟩
      obtain ⟨y, ey, b, rfl, eb⟩ := lw.at hx
      have hn2 : n < ws.length := by omega
      have ey := Option.some.inj ((wrdAt_at hn2).symm.trans ey)
      subst ey
      have ⟨wd, h0, hq⟩ := ok.at hn2
      have lzl := lz.1
      rw [csN_len] at lzl
      refine ⟨b, _, rfl, SqT.of (k2 _ _ eb), rfl, _, _, rfl, _, _, rfl, rfl, ?_⟩
      dsimp only [tSeq, tNext]
      refine ifs_mid (p := (0 : Int) < (zs.length : Int)) (fun σ' H' => ∃ zs2, σ' = [some v, some (.ref wa), some (.ref D), some (sV (wrdAt ws n).1), some (nV (wrdAt ws n).2)] ∧ Same H H' ∧ H' D = some (.lst zs2) ∧ LV (StpV H') zs2 (csN S ws n ++ if n = 0 then [] else [blankS 1])) (fun R h => ⟨_, rfl, D, _, rfl, .inl (SqL.of eD2), _, _, rfl, rfl, _, rfl, h⟩) (fun c k => ?_) (fun c k => ?_) ?_
      · refine ⟨.ref D, rfl, .inl ⟨rfl, _, .inl (.inl eD2)⟩, 1, rfl, by decide, fun H3 y k3 hy => ?_⟩
        have eD3 := k3 _ _ eD2
        have kt := kt_mut (zs := zs ++ [y]) eD3
        refine ⟨D, zs, y, rfl, rfl, eD3, szN (by omega), k _ _ ⟨zs ++ [y], rfl, same_mut (k2.trans k3) nD, upd_same, ?_⟩⟩
        rw [if_neg (show ¬ n = 0 by omega)]
        exact LV.snoc (lz.mono fun _ _ z => z.kt fun a xs e => kt _ _ (k3 _ _ e)) (hy.kt kt)
      · refine k _ _ ⟨zs, rfl, k2, eD2, ?_⟩
        rw [if_pos (show n = 0 by omega), List.append_nil]
        exact lz
      rintro σ4 H4 ⟨zs2, rfl, k4, eD4, lz4⟩
      have lz4l := lz4.1
      rw [List.length_append, csN_len] at lz4l
      have hle : (if n = 0 then ([] : List Stp) else [blankS 1]).length ≤ 1 := by split <;> decide
      refine ⟨.ref D, rfl, .inl ⟨rfl, _, .inl (.inl eD4)⟩, ?_⟩
      refine ⟨_, rfl, _, rfl, _, rfl, v, S, wrdAt ws n, rfl, sv.mono (same_tup k4), st, wd, h0, fun H5 y k5 hy => ?_⟩
      have eD5 := k5 _ _ eD4
      have kt := kt_mut (zs := zs2 ++ [y]) eD5
      refine ⟨D, zs2, y, rfl, rfl, eD5, szN (by omega), _, _, zs2 ++ [y], rfl, same_mut (k4.trans k5) nD, upd_same, ?_⟩
      exact LV.snoc (lz4.mono fun _ _ z => z.kt fun a xs e => kt _ _ (k5 _ _ e)) (hy.kt kt)
    · rintro σ1 H2 ⟨x3, x4, zs, rfl, k2, eD2, lz⟩
      rw [lus] at lz
      have hl := csN_len S ws ws.length
      have jk := (jn_ok (b := 100) (csN_shr st ok ws.length (Nat.le_refl _)) (by omega) (by omega)).1
      exact ⟨_, rfl, D, zs, _, rfl, eD2, lz, jk, fun H3 x k3 hx => q H3 x (k2.trans k3) hx⟩
end
end Vf

set_option Elab.async false
set_option linter.all false
set_option maxRecDepth 100000
set_option maxHeartbeats 4000000
namespace Vf
open PySem PySem.Spec PyProof.Rows L2 TL
def trk (row : List Cel) (n : Nat) : Nat := ((row.take n).map (·.1)).sum
theorem trk_succ {row : List Cel} {n : Nat} (h : n < row.length) : trk row (n + 1) = trk row n + (celAt row n).1 := by
  unfold trk
  rw [List.take_succ, celAt_at h]
  show ((row.take n ++ [celAt row n]).map (·.1)).sum = _
  rw [List.map_append, List.sum_append]; rfl
structure RwOk (row : List Cel) : Prop where
  n1 : 1 ≤ row.length
  n8 : row.length ≤ 8
  sp : ∀ c ∈ row, 1 ≤ c.1 ∧ WsOk c.2
  t8 : trk row row.length ≤ 8
theorem RwOk.at {row : List Cel} (h : RwOk row) {t : Nat} (ht : t < row.length) : 1 ≤ (celAt row t).1 ∧ WsOk (celAt row t).2 := h.sp _ (List.mem_of_getElem? (celAt_at ht))
theorem trk_mono {row : List Cel} (n : Nat) : ∀ d, n + d ≤ row.length → trk row n ≤ trk row (n + d)
  | 0, _ => Nat.le_refl _
  | d + 1, h => by
    have := trk_mono (row := row) n d (by omega)
    have e := trk_succ (row := row) (n := n + d) (by omega)
    show trk row n ≤ trk row (n + d + 1)
    omega
def CelV (H : Hp) (x : V) (c : Cel) : Prop := ∃ b t us, x = .ref b ∧ H b = some (.tup [nV c.1, .ref t]) ∧ H t = some (.tup us) ∧ LV (WkV H) us c.2
theorem CelV.kt {H H' : Hp} {x : V} {c : Cel} (h : CelV H x c) (k : ∀ a xs, H a = some (.tup xs) → H' a = some (.tup xs)) : CelV H' x c := by
  obtain ⟨b, t, us, e, h1, h2, h3⟩ := h
  exact ⟨b, t, us, e, k _ _ h1, k _ _ h2, h3.mono fun _ _ z => z.kt k⟩
def TcV (H : Hp) (x : V) (r : Nat × Nat × Stp) : Prop := ∃ b y, x = .ref b ∧ H b = some (.tup [nV r.1, nV r.2.1, y]) ∧ StpV H y r.2.2
theorem TcV.kt {H H' : Hp} {x : V} {r : Nat × Nat × Stp} (h : TcV H x r) (k : ∀ a xs, H a = some (.tup xs) → H' a = some (.tup xs)) : TcV H' x r := by
  obtain ⟨b, y, e, h1, h2⟩ := h
  exact ⟨b, y, e, k _ _ h1, h2.kt k⟩
def cellAt (S : Sty) (row : List Cel) (t : Nat) : Nat × Nat × Stp := (trk row t, (celAt row t).1, cellS S (celAt row t).2)
def rowT (S : Sty) (row : List Cel) (n : Nat) : List (Nat × Nat × Stp) := (List.range n).map (cellAt S row)
theorem rowT_succ (S : Sty) (row : List Cel) (n : Nat) : rowT S row (n + 1) = rowT S row n ++ [cellAt S row n] := by
  unfold rowT
  rw [List.range_succ, List.map_append]; rfl
theorem cellS_facts {S : Sty} (st : StyOk S) {ws : List Wrd} (ok : WsOk ws) : JnOk (csN S ws ws.length) ∧ (cellS S ws).1.length = (cellS S ws).2.1.length ∧ (cellS S ws).2.2.length ≤ 13 ∧ (cellS S ws).1.length ≤ 1300 := by
  have hl := csN_len S ws ws.length
  have l7 := ok.ln
  have hs := csN_shr st ok ws.length (Nat.le_refl _)
  have ⟨h1, h2, h3⟩ := jn_ok (b := 100) hs (by omega) (by omega)
  have h4 := trs_le 0 fun s hx => (hs s hx).1.2
  exact ⟨h1, h2.1, by show (trsS 0 (csN S ws ws.length)).length ≤ 13; omega, by show (jnS (csN S ws ws.length)).1.length ≤ 1300; omega⟩
/-! a row's strips side by side -/
def atN (S : Sty) (bs : List Nat) (row : List Cel) : Nat → Nat
  | 0 => 0
  | n + 1 => bs.getD (trk row n) 0 + (cellS S (celAt row n).2).1.length
def rsN (S : Sty) (bs : List Nat) (row : List Cel) : Nat → List Stp
  | 0 => []
  | n + 1 => rsN S bs row n ++ [blankS (bs.getD (trk row n) 0 - atN S bs row n), cellS S (celAt row n).2]
theorem rsN_len (S : Sty) (bs : List Nat) (row : List Cel) : ∀ n, (rsN S bs row n).length = 2 * n
  | 0 => rfl
  | n + 1 => by
    show (rsN S bs row n ++ [_, _]).length = _
    rw [List.length_append, rsN_len S bs row n]
    show 2 * n + 2 = _
    omega
theorem rsN_sg {S : Sty} {bs : List Nat} {row : List Cel} : ∀ n, (∀ t, t < n → atN S bs row t ≤ bs.getD (trk row t) 0) → ((rsN S bs row n).flatMap (fun s : Stp => s.1)).length = atN S bs row n
  | 0, _ => rfl
  | n + 1, h => by
    have ih := rsN_sg (S := S) (bs := bs) (row := row) n fun t ht => h t (by omega)
    have h1 := h n (Nat.lt_succ_self n)
    show ((rsN S bs row n ++ [blankS (bs.getD (trk row n) 0 - atN S bs row n), cellS S (celAt row n).2]).flatMap (fun s : Stp => s.1)).length = bs.getD (trk row n) 0 + (cellS S (celAt row n).2).1.length
    rw [List.flatMap_append, List.length_append, ih, List.flatMap_cons, List.flatMap_cons, List.flatMap_nil, List.append_nil, List.length_append]
    have : (blankS (bs.getD (trk row n) 0 - atN S bs row n)).1.length = bs.getD (trk row n) 0 - atN S bs row n := List.length_replicate
    omega
theorem rsN_eq {S : Sty} (st : StyOk S) {bs : List Nat} {row : List Cel} (ok : RwOk row) : ∀ n, n ≤ row.length → ∀ s ∈ rsN S bs row n, s.1.length = s.2.1.length ∧ s.2.2.length ≤ 13
  | 0, _, s, h => by cases h
  | n + 1, hn, s, h => by
    rcases List.mem_append.mp h with h | h
    · exact rsN_eq st ok n (by omega) s h
    · rcases List.mem_cons.mp h with h | h
      · rw [h]; exact ⟨(blank_eq _).1, Nat.zero_le _⟩
      · rw [List.mem_singleton.mp h]
        have ⟨_, h1, h2, _⟩ := cellS_facts st (ok.at (show n < row.length by omega)).2
        exact ⟨h1, h2⟩
theorem trs_leT {t : Nat} : ∀ {ss : List Stp} (l : Nat), (∀ s ∈ ss, s.2.2.length ≤ t) → (trsS l ss).length ≤ ss.length * t
  | [], _, _ => Nat.zero_le _
  | s :: ss, l, h => by
    show (s.2.2.map _ ++ trsS _ ss).length ≤ (ss.length + 1) * t
    rw [List.length_append, List.length_map, Nat.succ_mul]
    have h1 := h s List.mem_cons_self
    have h2 := trs_leT (t := t) (ss := ss) (l + s.1.length) fun x hx => h x (List.mem_cons_of_mem _ hx)
    omega
structure BsOk (S : Sty) (bs : List Nat) (row : List Cel) (M : Nat) : Prop where
  up : ∀ t, t < row.length → atN S bs row t ≤ bs.getD (trk row t) 0
  hi : ∀ t, t < row.length → trk row t < bs.length
  fit : atN S bs row row.length ≤ M
  hM : M ≤ 20000
theorem atN_step {S : Sty} {bs : List Nat} {row : List Cel} {n : Nat} (h : atN S bs row n ≤ bs.getD (trk row n) 0) : atN S bs row n ≤ atN S bs row (n + 1) := Nat.le_trans h (Nat.le_add_right _ _)
theorem atN_le {S : Sty} {bs : List Nat} {row : List Cel} {M : Nat} (b : BsOk S bs row M) (n : Nat) : ∀ d, n + d ≤ row.length → atN S bs row n ≤ atN S bs row (n + d)
  | 0, _ => Nat.le_refl _
  | d + 1, h => Nat.le_trans (atN_le b n d (by omega)) (atN_step (b.up (n + d) (by omega)))
theorem atN_M {S : Sty} {bs : List Nat} {row : List Cel} {M : Nat} (b : BsOk S bs row M) {n : Nat} (h : n ≤ row.length) : atN S bs row n ≤ M := by
  have h1 := atN_le b n (row.length - n) (by omega)
  rw [show n + (row.length - n) = row.length by omega] at h1
  exact Nat.le_trans h1 b.fit
theorem rs_ok {S : Sty} (st : StyOk S) {bs : List Nat} {row : List Cel} {M : Nat} (ok : RwOk row) (b : BsOk S bs row M) : JnOk (rsN S bs row row.length) ∧ EqL' (jnS (rsN S bs row row.length)) ∧ (jnS (rsN S bs row row.length)).1.length = atN S bs row row.length := by
  have h1 := rsN_sg (S := S) (bs := bs) (row := row) row.length b.up
  have h2 := rsN_len S bs row row.length
  have he := rsN_eq st (bs := bs) ok row.length (Nat.le_refl _)
  have h3 := flat_eq fun s hs => (he s hs).1
  have h4 := trs_leT (t := 13) 0 fun s hs => (he s hs).2
  have n8 := ok.n8
  have fit := b.fit
  have hM := b.hM
  refine ⟨⟨by omega, ?_, ?_, ?_⟩, ⟨h3, ?_⟩, h1⟩
  · show ((rsN S bs row row.length).flatMap (fun s : Stp => s.1)).length ≤ 90000
    omega
  · show ((rsN S bs row row.length).flatMap (fun s : Stp => s.2.1)).length ≤ 90000
    omega
  · show (trsS 0 (rsN S bs row row.length)).length ≤ 40000
    omega
  · show (trsS 0 (rsN S bs row row.length)).length ≤ 1000
    omega
/-- a row of a table as it is told -/
def rowLn (S : Sty) (bs : List Nat) (row : List Cel) (M : Nat) : List Nat × List Nat := ((jnS (rsN S bs row row.length)).1 ++ List.replicate (M - (jnS (rsN S bs row row.length)).1.length) 32, (jnS (rsN S bs row row.length)).2.1 ++ List.replicate (M - (jnS (rsN S bs row row.length)).1.length) 32)
section
variable {P : Program} {w : World} {K : PySem.W.Frag} {mg : Str → Option Value} {base : Heap}
def spCellsOf : Sp := fun vs H Q _ => ∃ (v : V) (ra : Addr) (us : List V) (S : Sty) (row : List Cel), vs = [v, .ref ra] ∧ StyV H v S ∧ StyOk S ∧ H ra = some (.tup us) ∧ LV (CelV H) us row ∧ RwOk row ∧
  ∀ H' L zs, Same H H' → H L = none → H' L = some (.lst zs) → LV (TcV H') zs (rowT S row row.length) → Q (.ref L) H'
theorem ok_cells_of (T : Txt K mg) : FnOk P w K mg base CX0 9 T.a_cells_of T.d_cells_of ["style", "row"] spCellsOf := by
  have G_cell_strip : FnOk P w K mg base CX0 8 T.a_cell_strip T.d_cell_strip ["style", "words"] spCellS := ok_cell_strip T
  refine T.D_cells_of.F.ok sc_cells_of (fun vs H Q E h => ?_) (fun cdv A outer s H vs Q E hr h => ?_)
  · obtain ⟨_, _, _, _, _, rfl, _⟩ := h
    rfl
  · obtain ⟨v, ra, us, S, row, rfl, sv, st, er, lr, ok, q⟩ := h
    have n8 := ok.n8
    have lus := lr.1
    refine ⟨_, (pss_cons (ps_set (i := 2) sc_cells_of.nd rfl (.inl rfl) (pe_lst pa_nil))
      (pss_cons (ps_set (i := 3) sc_cells_of.nd rfl (.inl rfl) pe_int)
      (pss_cons (ps_for PassesOwn.never rfl (pi_tup (pv 1)) (pg_tup (by rfl) (pgs_cons (pg_name (i := 4) sc_cells_of.nd rfl (.inl rfl)) (pgs_cons (pg_name (i := 5) sc_cells_of.nd rfl (.inl rfl)) pgs_nil))) (pss_cons (ps_expr (pe_bm PySem.F.plainAttrs_list PySem.F.slot_list_append PySem.F.type_list_append mt_append (pv 2) (pa_cons (pe_tup (pa_cons (pv 3) (pa_cons (pv 4) (pa_cons (pe_call G_cell_strip (hr.mono (by decide)) (by rfl) T.D_cell_strip.G T.D_cell_strip.F.kp T.D_cell_strip.B .nil pass0 (pa_cons (pv 0) (pa_cons (pv 5) pa_nil))) pa_nil)))) pa_nil)))
      (pss_one (ps_aug (i := 3) sc_cells_of.nd rfl (.inl rfl) (pv 4) ip_add))))
      (pss_one (ps_ret (pv 2)))))), ?_⟩
    refine ⟨by show 0 ≤ sizeLine; decide, fun D nD => ?_⟩
    have k1 := same_upd (o := .lst []) (Same.refl H) nD
    have eD : upd H D (.lst []) D = some (.lst []) := upd_same
    generalize upd H D (.lst []) = H1 at k1 eD
    refine ⟨_, rfl, ra, rfl, ⟨_, SqT.of (k1 _ _ er)⟩, ?_⟩
    refine for_it (walk_tup (K := K) (a := ra) (xs := us)) (fun n σ' H' => ∃ (x4 x5 : Option V) (zs : List V), σ' = [some v, some (.ref ra), some (.ref D), some (nV (trk row n)), x4, x5] ∧ Same H H' ∧ H' D = some (.lst zs) ∧ LV (TcV H') zs (rowT S row n)) ⟨_, _, [], rfl, k1, eD, LV.nil⟩ ?_ ?_ ?_
    · rintro i σ1 H' _ ⟨_, _, _, _, k, _⟩
      exact SqT.of (k _ _ er)
    · rintro n x σ1 Ha H2 hn ⟨x4, x5, zs, rfl, k2, eD2, lz⟩ ⟨rfl, hx⟩
      obtain ⟨c, ec, b, t, wus, rfl, eb, et, lw⟩ := lr.at hx
      have hn2 : n < row.length := by omega
      have ec := Option.some.inj ((celAt_at hn2).symm.trans ec)
      subst ec
      have ⟨hsp, wok⟩ := ok.at hn2
      have lzl := lz.1
      unfold rowT at lzl
      rw [List.length_map, List.length_range] at lzl
      refine ⟨b, _, rfl, SqT.of (k2 _ _ eb), rfl, _, _, rfl, _, _, rfl, rfl, ?_⟩
      refine ⟨.ref D, rfl, .inl ⟨rfl, _, .inl (.inl eD2)⟩, _, rfl, _, rfl, _, rfl, _, rfl, v, t, wus, S, (celAt row n).2, rfl, sv.mono (same_tup k2), st, k2 _ _ et, lw.mono fun _ _ z => z.kt (same_tup k2), wok, fun H3 y k3 hy => ⟨by show 3 ≤ sizeLine; decide, fun p np => ?_⟩⟩
      have k4 := same_upd (o := .tup [nV (trk row n), nV (celAt row n).1, y]) (Same.refl H3) np
      have ep : upd H3 p (.tup [nV (trk row n), nV (celAt row n).1, y]) p = some (.tup [nV (trk row n), nV (celAt row n).1, y]) := upd_same
      generalize upd H3 p (.tup [nV (trk row n), nV (celAt row n).1, y]) = H4 at k4 ep
      have eD4 := k4 _ _ (k3 _ _ eD2)
      have kt := kt_mut (zs := zs ++ [V.ref p]) eD4
      refine ⟨D, zs, _, rfl, rfl, eD4, szN (by omega), ?_⟩
      refine ⟨_, rfl, _, rfl, _, _, rfl, rfl, ?_⟩
      refine ⟨_, _, zs ++ [.ref p], congrArg (fun z => [some v, some (V.ref ra), some (.ref D), some z, some (nV (celAt row n).1), some (.ref t)]) (show V.int ((trk row n : Int) + ((celAt row n).1 : Int)) = nV (trk row (n + 1)) from congrArg V.int (by rw [trk_succ hn2]; omega)), same_mut ((k2.trans k3).trans k4) nD, upd_same, ?_⟩
      rw [rowT_succ]
      exact LV.snoc (lz.mono fun _ _ z => z.kt fun a xs e => kt _ _ (k4 _ _ (k3 _ _ e))) ⟨p, y, rfl, kt _ _ ep, (hy.kt (same_tup k4)).kt kt⟩
    · rintro σ1 H2 ⟨x4, x5, zs, rfl, k2, eD2, lz⟩
      rw [lus] at lz
      exact ⟨_, rfl, q H2 D zs k2 nD eD2 lz⟩
def spRowS : Sp := fun vs H Q _ => ∃ (ba ra : Addr) (zs : List V) (S : Sty) (bs : List Nat) (row : List Cel) (M : Nat), vs = [nV M, .ref ba, .ref ra] ∧ H ba = some (.tup (bs.map nV)) ∧ H ra = some (.lst zs) ∧ LV (TcV H) zs (rowT S row row.length) ∧ StyOk S ∧ RwOk row ∧ BsOk S bs row M ∧
  ∀ H' y, Same H H' → LnV H' y (rowLn S bs row M) → Q y H'
theorem ok_row_strip (T : Txt K mg) : FnOk P w K mg base CX0 4 T.a_row_strip T.d_row_strip ["measure", "bounds", "row"] spRowS := by
  have G_blank_strip : FnOk P w K mg base CX0 2 T.a_blank_strip T.d_blank_strip ["width"] spBlank := ok_blank T
  have G_joined : FnOk P w K mg base CX0 1 T.a_joined T.d_joined ["strips"] spJoined := ok_joined T
  have G_placed : FnOk P w K mg base CX0 3 T.a_placed T.d_placed ["strip", "left", "width"] spPlaced := ok_placed T
  refine T.D_row_strip.F.ok sc_row_strip (fun vs H Q E h => ?_) (fun cdv A outer s H vs Q E hr h => ?_)
  · obtain ⟨_, _, _, _, _, _, _, rfl, _⟩ := h
    rfl
  · obtain ⟨ba, ra, zs, S, bs, row, M, rfl, eb, er, lr, st, ok, bok, q⟩ := h
    have n8 := ok.n8
    have hM := bok.hM
    have lzs := lr.1
    have rtl : (rowT S row row.length).length = row.length := by unfold rowT; rw [List.length_map, List.length_range]
    have rta : ∀ t, t < row.length → (rowT S row row.length)[t]? = some (cellAt S row t) := fun t ht => by unfold rowT; rw [List.getElem?_map, List.getElem?_range ht]; rfl
    refine ⟨_, (pss_cons (ps_set (i := 3) sc_row_strip.nd rfl (.inl rfl) (pe_lst pa_nil))
      (pss_cons (ps_set (i := 4) sc_row_strip.nd rfl (.inl rfl) pe_int)
      (pss_cons (ps_for PassesOwn.never rfl (pi_list (pv 2)) (pg_tup (by rfl) (pgs_cons (pg_name (i := 5) sc_row_strip.nd rfl (.inl rfl)) (pgs_cons (pg_name (i := 6) sc_row_strip.nd rfl (.inl rfl)) (pgs_cons (pg_name (i := 7) sc_row_strip.nd rfl (.inl rfl)) pgs_nil)))) (pss_cons (ps_expr (pe_bm PySem.F.plainAttrs_list PySem.F.slot_list_append PySem.F.type_list_append mt_append (pv 3) (pa_cons (pe_call G_blank_strip (hr.mono (by decide)) (by rfl) T.D_blank_strip.G T.D_blank_strip.F.kp T.D_blank_strip.B .nil pass0 (pa_cons (pe_op op_sub (pe_ix ix_tup (pv 1) (pv 5) (fun _ _ => rfl)) (pv 4)) pa_nil)) pa_nil)))
      (pss_cons (ps_expr (pe_bm PySem.F.plainAttrs_list PySem.F.slot_list_append PySem.F.type_list_append mt_append (pv 3) (pa_cons (pv 7) pa_nil)))
      (pss_one (ps_set (i := 4) sc_row_strip.nd rfl (.inl rfl) (pe_op op_add (pe_ix ix_tup (pv 1) (pv 5) (fun _ _ => rfl)) (pe_callB call_len_str (by rfl) T.n_len PySem.boot_len (pa_cons (pe_ix ix_tup (pv 7) pe_int (fun _ _ => rfl)) pa_nil))))))))
      (pss_one (ps_ret (pe_call G_placed (hr.mono (by decide)) (by rfl) T.D_placed.G T.D_placed.F.kp T.D_placed.B .nil pass0 (pa_cons (pe_call G_joined (hr.mono (by decide)) (by rfl) T.D_joined.G T.D_joined.F.kp T.D_joined.B .nil pass0 (pa_cons (pv 3) pa_nil)) (pa_cons pe_int (pa_cons (pv 0) pa_nil))))))))), ?_⟩
    refine ⟨by show 0 ≤ sizeLine; decide, fun D nD => ?_⟩
    have k1 := same_upd (o := .lst []) (Same.refl H) nD
    have eD : upd H D (.lst []) D = some (.lst []) := upd_same
    generalize upd H D (.lst []) = H1 at k1 eD
    refine ⟨_, rfl, ra, rfl, ⟨_, SqL.of (k1 _ _ er)⟩, ?_⟩
    refine for_it (walk_list (K := K) (a := ra) (xs := zs)) (fun n σ' H' => ∃ (x5 x6 x7 : Option V) (us : List V), σ' = [some (nV M), some (.ref ba), some (.ref ra), some (.ref D), some (nV (atN S bs row n)), x5, x6, x7] ∧ Same H H' ∧ H' D = some (.lst us) ∧ LV (StpV H') us (rsN S bs row n)) ⟨_, _, _, [], rfl, k1, eD, LV.nil⟩ ?_ ?_ ?_
    · rintro i σ1 H' _ ⟨_, _, _, _, _, k, _⟩
      exact SqL.of (k _ _ er)
    · rintro n x σ1 Ha H2 hn ⟨x5, x6, x7, us, rfl, k2, eD2, lz⟩ ⟨rfl, hx⟩
      have hn2 : n < row.length := by omega
      obtain ⟨c, ec, b, y, rfl, ebb, hy⟩ := lr.at hx
      have ec := Option.some.inj ((rta n hn2).symm.trans ec)
      subst ec
      have up := bok.up n hn2
      have hi := bok.hi n hn2
      have a1 := atN_M bok (show n + 1 ≤ row.length by omega)
      have a1e : atN S bs row (n + 1) = bs.getD (trk row n) 0 + (cellS S (celAt row n).2).1.length := rfl
      have lzl := lz.1
      rw [rsN_len] at lzl
      have gb : (bs.map nV)[trk row n]? = some (nV (bs.getD (trk row n) 0)) := by
        rw [List.getElem?_map, List.getElem?_eq_getElem hi, List.getD_eq_getElem?_getD, List.getElem?_eq_getElem hi]; rfl
      have ebb2 : H2 b = some (.tup [nV (trk row n), nV (celAt row n).1, y]) := k2 _ _ ebb
      have hy : StpV H y (cellS S (celAt row n).2) := hy
      refine ⟨b, _, rfl, SqT.of ebb2, rfl, _, _, rfl, _, _, rfl, _, _, rfl, rfl, ?_⟩
      refine ⟨.ref D, rfl, .inl ⟨rfl, _, .inl (.inl eD2)⟩, _, rfl, _, rfl, ba, _, _, _, rfl, rfl, SqT.of (k2 _ _ eb), atI_nat gb, _, rfl, _, _, rfl, rfl, ?_⟩
      refine ⟨bs.getD (trk row n) 0 - atN S bs row n, congrArg (fun z => [V.int z]) (by omega), by omega, fun H3 bl k3 hbl => ?_⟩
      have eD3 := k3 _ _ eD2
      have kt := kt_mut (zs := us ++ [bl]) eD3
      refine ⟨D, us, bl, rfl, rfl, eD3, szN (by omega), ?_⟩
      have k4 : Same H (upd H3 D (.lst (us ++ [bl]))) := same_mut (k2.trans k3) nD
      have eD4 : upd H3 D (.lst (us ++ [bl])) D = some (.lst (us ++ [bl])) := upd_same
      have lz4 : LV (StpV (upd H3 D (.lst (us ++ [bl])))) (us ++ [bl]) (rsN S bs row n ++ [blankS (bs.getD (trk row n) 0 - atN S bs row n)]) := LV.snoc (lz.mono fun _ _ z => z.kt fun a xs e => kt _ _ (k3 _ _ e)) (hbl.kt kt)
      generalize upd H3 D (.lst (us ++ [bl])) = H4 at k4 eD4 lz4
      have kt4 := kt_mut (zs := us ++ [bl] ++ [y]) eD4
      refine ⟨.ref D, rfl, .inl ⟨rfl, _, .inl (.inl eD4)⟩, _, rfl, D, us ++ [bl], y, rfl, rfl, eD4, szN (by rw [List.length_append]; show us.length + 1 < _; omega), ?_⟩
      have k5 : Same H (upd H4 D (.lst (us ++ [bl] ++ [y]))) := same_mut k4 nD
      have eD5 : upd H4 D (.lst (us ++ [bl] ++ [y])) D = some (.lst (us ++ [bl] ++ [y])) := upd_same
      have lz5 : LV (StpV (upd H4 D (.lst (us ++ [bl] ++ [y])))) (us ++ [bl] ++ [y]) (rsN S bs row (n + 1)) := by
        have h := LV.snoc (lz4.mono fun _ _ z => z.kt kt4) ((hy.kt (same_tup k4)).kt kt4)
        rw [List.append_assoc (rsN S bs row n)] at h
        exact h
      generalize upd H4 D (.lst (us ++ [bl] ++ [y])) = H5 at k5 eD5 lz5
      obtain ⟨by_, ty, tus, rfl, e1, e2, e3⟩ := hy.kt (same_tup k5)
      have hbz : (mkS (cellS S (celAt row n).2).1).length ≤ sizeLine := by rw [mkS_len]; exact big_ok (by omega)
      refine ⟨_, rfl, _, rfl, ba, _, _, _, rfl, rfl, SqT.of (k5 _ _ eb), atI_nat gb, _, rfl, by_, _, 0, _, rfl, rfl, SqT.of e1, rfl, _, rfl, hbz, _, _, rfl, rfl, ?_⟩
      exact ⟨_, _, _, _, congrArg (fun z => [some (nV M), some (V.ref ba), some (.ref ra), some (.ref D), some z, some (nV (trk row n)), some (nV (celAt row n).1), some (.ref by_)]) (show V.int ((bs.getD (trk row n) 0 : Int) + ((mkS (cellS S (celAt row n).2).1).length : Int)) = nV (atN S bs row (n + 1)) from congrArg V.int (by rw [mkS_len, a1e]; omega)), k5, eD5, lz5⟩
    · rintro σ1 H2 ⟨x5, x6, x7, us, rfl, k2, eD2, lz⟩
      rw [lzs, rtl] at lz
      have ⟨jk, eq, hl⟩ := rs_ok st ok bok
      refine ⟨_, rfl, D, us, _, rfl, eD2, lz, jk, fun H3 x k3 hx => ?_⟩
      refine ⟨_, rfl, x, _, 0, M, rfl, hx, eq, hM, ?_, fun H4 y k4 hy => q H4 y ((k2.trans k3).trans k4) ⟨_, hy, pl_cv⟩⟩
      rw [hl, Nat.zero_add]
      exact bok.fit
end
end Vf

set_option Elab.async false
set_option linter.all false
set_option maxRecDepth 100000
set_option maxHeartbeats 4000000
namespace Vf
open PySem PySem.Spec PyProof.Rows L2 TL
/-! ### least boundaries, one by one -/
def bN (cs : List Arc) (i : Nat) : Nat := (bl cs i).getD i 0
theorem bl_at (cs : List Arc) (i : Nat) : ∀ d, (bl cs (i + d)).getD i 0 = bN cs i
  | 0 => rfl
  | d + 1 => by
    show (bl cs (i + d) ++ [_]).getD i 0 = _
    rw [getD_left (by rw [bl_len]; omega)]
    exact bl_at cs i d
theorem bl_get {cs : List Arc} {i n : Nat} (h : i ≤ n) : (bl cs n).getD i 0 = bN cs i := by
  have := bl_at cs i (n - i)
  rwa [show i + (n - i) = n by omega] at this
def lowR (cs : List Arc) (n : Nat) (r : Arc) : Option Nat := if r.1 + r.2.1 = n then some (bN cs r.1 + r.2.2 + 1) else none
def lowL (cs : List Arc) (n : Nat) (es : List Arc) : List Nat := (bN cs (n - 1) + 1) :: es.filterMap (lowR cs n)
theorem bl_low {cs : List Arc} (n : Nat) (h : ∀ r ∈ cs, 1 ≤ r.2.1) : mx (lowL cs (n + 1) cs) = some (bN cs (n + 1)) := by
  have e0 : bN cs (n + 1) = (mx ((List.range (n + 1)).filterMap (cand cs (bl cs n) (n + 1)))).getD 0 := by
    show (bl cs n ++ [_]).getD (n + 1) 0 = _
    rw [getD_last (by rw [bl_len])]
  obtain ⟨v, hv⟩ := cand_ne (cs := cs) (bs := bl cs n) n
  rw [hv] at e0
  have e0 : bN cs (n + 1) = v := e0
  rw [e0]
  have ⟨h1, h2⟩ := mx_spec hv
  refine mx_of ?_ ?_
  · obtain ⟨a, ha, ea⟩ := List.mem_filterMap.mp h1
    have ha := List.mem_range.mp ha
    unfold cand at ea
    cases hd : dem cs a (n + 1) with
    | none => rw [hd] at ea; cases ea
    | some e =>
      rw [hd, bl_get (by omega)] at ea
      have ea : bN cs a + e = v := Option.some.inj ea
      have ⟨g1, _⟩ := mx_spec hd
      rcases List.mem_append.mp g1 with g | g
      · obtain ⟨r, hr, er⟩ := List.mem_filterMap.mp g
        unfold msR at er
        by_cases c : r.1 = a ∧ r.1 + r.2.1 = n + 1
        · rw [if_pos c] at er
          have er := Option.some.inj er
          refine List.mem_cons_of_mem _ (List.mem_filterMap.mpr ⟨r, hr, ?_⟩)
          unfold lowR
          rw [if_pos c.2, c.1, ← ea, ← er]; rfl
        · rw [if_neg c] at er; cases er
      · by_cases c : n + 1 = a + 1
        · rw [if_pos c] at g
          have := List.mem_singleton.mp g
          have ean : a = n := by omega
          rw [← ea, this, ean]
          exact List.mem_cons_self
        · rw [if_neg c] at g; cases g
  · intro x hx
    rcases List.mem_cons.mp hx with hx | hx
    · obtain ⟨e, he⟩ := dem_next cs n
      have ⟨_, g2⟩ := mx_spec he
      have g3 := g2 1 (List.mem_append_right _ (by rw [if_pos rfl]; exact List.mem_singleton.mpr rfl))
      have g4 := h2 (bN cs n + e) (List.mem_filterMap.mpr ⟨n, List.mem_range.mpr (Nat.lt_succ_self n), by unfold cand; rw [he, bl_get (Nat.le_refl _)]; rfl⟩)
      rw [hx, Nat.add_sub_cancel]
      omega
    · obtain ⟨r, hr, er⟩ := List.mem_filterMap.mp hx
      unfold lowR at er
      by_cases c : r.1 + r.2.1 = n + 1
      · rw [if_pos c] at er
        have er := Option.some.inj er
        have hr1 := h r hr
        cases hd : dem cs r.1 (n + 1) with
        | none =>
          unfold dem at hd
          have : r.2.2 + 1 ∈ ms cs r.1 (n + 1) := List.mem_filterMap.mpr ⟨r, hr, by unfold msR; rw [if_pos ⟨rfl, c⟩]⟩
          have e := mx_nil.mp hd
          rw [(List.append_eq_nil_iff.mp e).1] at this
          cases this
        | some e =>
          have ⟨_, g2⟩ := mx_spec hd
          have g3 := g2 (r.2.2 + 1) (List.mem_append_left _ (List.mem_filterMap.mpr ⟨r, hr, by unfold msR; rw [if_pos ⟨rfl, c⟩]⟩))
          have g4 := h2 (bN cs r.1 + e) (List.mem_filterMap.mpr ⟨r.1, List.mem_range.mpr (by omega), by unfold cand; rw [hd, bl_get (by omega)]; rfl⟩)
          omega
      · rw [if_neg c] at er; cases er
theorem bN_up {cs : List Arc} (h : ∀ r ∈ cs, 1 ≤ r.2.1) (n : Nat) : bN cs n + 1 ≤ bN cs (n + 1) := (mx_spec (bl_low n h)).2 _ List.mem_cons_self
theorem bN_mono {cs : List Arc} (h : ∀ r ∈ cs, 1 ≤ r.2.1) (n : Nat) : ∀ d, bN cs n ≤ bN cs (n + d)
  | 0 => Nat.le_refl _
  | d + 1 => by
    have h1 := bN_mono h n d
    have h2 := bN_up h (n + d)
    show _ ≤ bN cs (n + d + 1)
    omega
theorem bN_cell {cs : List Arc} (h : ∀ r ∈ cs, 1 ≤ r.2.1) {r : Arc} (hr : r ∈ cs) : bN cs r.1 + r.2.2 + 1 ≤ bN cs (r.1 + r.2.1) := by
  have h1 := h r hr
  obtain ⟨n, hn⟩ : ∃ n, r.1 + r.2.1 = n + 1 := ⟨r.1 + r.2.1 - 1, by omega⟩
  have := (mx_spec (bl_low n h)).2 (bN cs r.1 + r.2.2 + 1) (List.mem_cons_of_mem _ (List.mem_filterMap.mpr ⟨r, hr, by unfold lowR; rw [if_pos hn]⟩))
  rwa [hn]
/-! ### whole tables -/
abbrev Tbl := List (List Cel)
structure TbOk (Y : Tbl) : Prop where
  n1 : 1 ≤ Y.length
  n12 : Y.length ≤ 12
  rw : ∀ row ∈ Y, RwOk row
def rowA (S : Sty) (row : List Cel) (n : Nat) : List Arc := (rowT S row n).map fun r => (r.1, r.2.1, r.2.2.1.length)
def celsA (S : Sty) (Y : Tbl) : List Arc := Y.flatMap fun row => rowA S row row.length
def ntr (Y : Tbl) : Nat := (mx (Y.map fun row => trk row row.length)).getD 0
theorem ntr_le {Y : Tbl} {row : List Cel} (h : row ∈ Y) : trk row row.length ≤ ntr Y := by
  unfold ntr
  cases e : mx (Y.map fun row => trk row row.length) with
  | none => rw [List.map_eq_nil_iff.mp (mx_nil.mp e)] at h; cases h
  | some m => exact (mx_spec e).2 _ (List.mem_map.mpr ⟨row, h, rfl⟩)
theorem ntr_mem {Y : Tbl} (h : 1 ≤ Y.length) : ∃ row ∈ Y, trk row row.length = ntr Y := by
  unfold ntr
  cases e : mx (Y.map fun row => trk row row.length) with
  | none => rw [List.map_eq_nil_iff.mp (mx_nil.mp e)] at h; exact absurd h (by decide)
  | some m => exact List.mem_map.mp (mx_spec e).1
theorem rowA_mem {S : Sty} {row : List Cel} {r : Arc} {n : Nat} (h : r ∈ rowA S row n) : ∃ t, t < n ∧ r = (trk row t, (celAt row t).1, (cellS S (celAt row t).2).1.length) := by
  obtain ⟨q, hq, rfl⟩ := List.mem_map.mp h
  obtain ⟨t, ht, rfl⟩ := List.mem_map.mp hq
  exact ⟨t, List.mem_range.mp ht, rfl⟩
theorem rowA_has {S : Sty} {row : List Cel} {t n : Nat} (h : t < n) : (trk row t, (celAt row t).1, (cellS S (celAt row t).2).1.length) ∈ rowA S row n := List.mem_map.mpr ⟨_, List.mem_map.mpr ⟨t, List.mem_range.mpr h, rfl⟩, rfl⟩
theorem rowA_len (S : Sty) (row : List Cel) (n : Nat) : (rowA S row n).length = n := by
  unfold rowA rowT
  rw [List.length_map, List.length_map, List.length_range]
theorem celsA_mem {S : Sty} {Y : Tbl} {r : Arc} (h : r ∈ celsA S Y) : ∃ row ∈ Y, ∃ t, t < row.length ∧ r = (trk row t, (celAt row t).1, (cellS S (celAt row t).2).1.length) := by
  obtain ⟨row, hr, h⟩ := List.mem_flatMap.mp h
  exact ⟨row, hr, rowA_mem h⟩
theorem celsA_has {S : Sty} {Y : Tbl} {row : List Cel} (hr : row ∈ Y) {t : Nat} (h : t < row.length) : (trk row t, (celAt row t).1, (cellS S (celAt row t).2).1.length) ∈ celsA S Y := List.mem_flatMap.mpr ⟨row, hr, rowA_has h⟩
theorem celsA_sp {S : Sty} {Y : Tbl} (ok : TbOk Y) : ∀ r ∈ celsA S Y, 1 ≤ r.2.1 ∧ r.1 + r.2.1 ≤ ntr Y := by
  intro r h
  obtain ⟨row, hr, t, ht, rfl⟩ := celsA_mem h
  refine ⟨((ok.rw row hr).at ht).1, ?_⟩
  have h1 := trk_succ ht
  have h2 := trk_mono (row := row) (t + 1) (row.length - (t + 1)) (by omega)
  rw [show t + 1 + (row.length - (t + 1)) = row.length by omega] at h2
  have h3 := ntr_le hr
  show trk row t + (celAt row t).1 ≤ ntr Y
  omega
theorem tbl_flat {α : Type} {f : List Cel → List α} {b : Nat} : ∀ {Y : Tbl}, (∀ row ∈ Y, (f row).length ≤ b) → (Y.flatMap f).length ≤ Y.length * b
  | [], _ => Nat.zero_le _
  | r :: Y, h => by
    rw [List.flatMap_cons, List.length_append, List.length_cons, Nat.succ_mul]
    have h1 := h r List.mem_cons_self
    have h2 := tbl_flat (Y := Y) fun row hr => h row (List.mem_cons_of_mem _ hr)
    omega
theorem celsA_len {S : Sty} {Y : Tbl} (h : ∀ row ∈ Y, row.length ≤ 8) : (celsA S Y).length ≤ Y.length * 8 := tbl_flat fun row hr => by rw [rowA_len]; exact h row hr
theorem tab_ok {S : Sty} {Y : Tbl} (ok : TbOk Y) : 1 ≤ ntr Y ∧ ntr Y ≤ 8 ∧ (celsA S Y).length ≤ 96 ∧ TabOk (ntr Y) (celsA S Y) := by
  have h12 := ok.n12
  have hl := celsA_len (S := S) (Y := Y) fun row hr => (ok.rw row hr).n8
  have h8 : ntr Y ≤ 8 := by
    obtain ⟨row, hr, e⟩ := ntr_mem ok.n1
    rw [← e]; exact (ok.rw row hr).t8
  have h1 : 1 ≤ ntr Y := by
    obtain ⟨row, hr, e⟩ := ntr_mem ok.n1
    have h0 := (ok.rw row hr).n1
    have := (celsA_sp (S := S) ok _ (celsA_has hr (show 0 < row.length from h0)))
    have h2 := this.1
    have h3 := this.2
    show 1 ≤ ntr Y
    omega
  exact ⟨h1, h8, by omega, h1, by omega, by omega, celsA_sp ok⟩
/-- the cells' last units fit within the boundaries -/
theorem bs_ok {S : Sty} {Y : Tbl} (ok : TbOk Y) {M : Nat} (hM : M ≤ 20000) (hf : bN (celsA S Y) (ntr Y) ≤ M + 1) {row : List Cel} (hr : row ∈ Y) : BsOk S (bl (celsA S Y) (ntr Y)) row M := by
  have hsp : ∀ r ∈ celsA S Y, 1 ≤ r.2.1 := fun r h => (celsA_sp ok r h).1
  have rok := ok.rw row hr
  have tle : ∀ t, t ≤ row.length → trk row t ≤ ntr Y := fun t ht => by
    have h2 := trk_mono (row := row) t (row.length - t) (by omega)
    rw [show t + (row.length - t) = row.length by omega] at h2
    exact Nat.le_trans h2 (ntr_le hr)
  have key : ∀ t, t < row.length → (bl (celsA S Y) (ntr Y)).getD (trk row t) 0 + (cellS S (celAt row t).2).1.length + 1 ≤ bN (celsA S Y) (trk row (t + 1)) := fun t ht => by
    rw [bl_get (tle t (by omega)), trk_succ ht]
    exact bN_cell hsp (celsA_has hr ht)
  refine ⟨fun t ht => ?_, fun t ht => ?_, ?_, hM⟩
  · cases t with
    | zero => exact Nat.zero_le _
    | succ t =>
      have := key t (by omega)
      rw [bl_get (tle (t + 1) (by omega))]
      show (bl (celsA S Y) (ntr Y)).getD (trk row t) 0 + (cellS S (celAt row t).2).1.length ≤ _
      omega
  · rw [bl_len]
    have := tle t (by omega)
    omega
  · have h0 := rok.n1
    obtain ⟨k, hk⟩ : ∃ k, row.length = k + 1 := ⟨row.length - 1, by omega⟩
    have h1 := key k (by omega)
    have h2 := tle (k + 1) (by omega)
    have h3 := bN_mono hsp (trk row (k + 1)) (ntr Y - trk row (k + 1))
    rw [show trk row (k + 1) + (ntr Y - trk row (k + 1)) = ntr Y by omega] at h3
    rw [hk]
    show (bl (celsA S Y) (ntr Y)).getD (trk row k) 0 + (cellS S (celAt row k).2).1.length ≤ M
    omega
theorem bl_last (cs : List Arc) : ∀ n, atI ((bl cs n).map nV) (-1) = some (nV (bN cs n))
  | 0 => rfl
  | n + 1 => by
    have e : bN cs (n + 1) = (mx ((List.range (n + 1)).filterMap (cand cs (bl cs n) (n + 1)))).getD 0 := by
      show (bl cs n ++ [_]).getD (n + 1) 0 = _
      rw [getD_last (by rw [bl_len])]
    rw [e]
    show atI ((bl cs n ++ [_]).map nV) (-1) = _
    rw [List.map_append]
    exact atI_last _ _
theorem ntr_hit {S : Sty} {Y : Tbl} (ok : TbOk Y) : ∃ r ∈ celsA S Y, r.1 + r.2.1 = ntr Y := by
  obtain ⟨row, hr, e⟩ := ntr_mem ok.n1
  have h1 := (ok.rw row hr).n1
  have ht : row.length - 1 < row.length := by omega
  refine ⟨_, celsA_has hr ht, ?_⟩
  have := trk_succ ht
  rw [show row.length - 1 + 1 = row.length by omega] at this
  show trk row (row.length - 1) + (celAt row (row.length - 1)).1 = ntr Y
  omega
def RowV (H : Hp) (x : V) (row : List Cel) : Prop := ∃ b us, x = .ref b ∧ H b = some (.tup us) ∧ LV (CelV H) us row
theorem RowV.kt {H H' : Hp} {x : V} {row : List Cel} (h : RowV H x row) (k : ∀ a xs, H a = some (.tup xs) → H' a = some (.tup xs)) : RowV H' x row := by
  obtain ⟨b, us, e, h1, h2⟩ := h
  exact ⟨b, us, e, k _ _ h1, h2.mono fun _ _ z => z.kt k⟩
/-- a row of cells as a list at another place than D -/
def TrwV (S : Sty) (D : Addr) (H : Hp) (x : V) (row : List Cel) : Prop := ∃ L zs, x = .ref L ∧ L ≠ D ∧ H L = some (.lst zs) ∧ LV (TcV H) zs (rowT S row row.length)
theorem TrwV.keep {S : Sty} {D : Addr} {H H' : Hp} {x : V} {row : List Cel} (h : TrwV S D H x row) (k : Same H H') : TrwV S D H' x row := by
  obtain ⟨L, zs, e, ne, h1, h2⟩ := h
  exact ⟨L, zs, e, ne, k _ _ h1, h2.mono fun _ _ z => z.kt (same_tup k)⟩
theorem TrwV.put {S : Sty} {D : Addr} {H : Hp} {x : V} {row : List Cel} {vs ws : List V} (h : TrwV S D H x row) (e : H D = some (.lst vs)) : TrwV S D (upd H D (.lst ws)) x row := by
  obtain ⟨L, zs, ex, ne, h1, h2⟩ := h
  exact ⟨L, zs, ex, ne, by rw [upd_ne ne]; exact h1, h2.mono fun _ _ z => z.kt (kt_mut e)⟩
section
variable {P : Program} {w : World} {K : PySem.W.Frag} {mg : Str → Option Value} {base : Heap}
/-- the strips of a table, or TooWide("table") -/
def spTab (tw : Addr) (R : Hp → V → (List Nat × List Nat) → Prop) : Sp := fun vs H Q E => ∃ (va ta : Addr) (vp us : List V) (S : Sty) (Y : Tbl) (M : Nat), vs = [.ref va, .ref ta] ∧ H va = some (.tup vp) ∧ vp[0]? = some (nV M) ∧ StyV H (.ref va) S ∧ StyOk S ∧ H ta = some (.tup us) ∧ LV (RowV H) us Y ∧ TbOk Y ∧ M ≤ 20000 ∧
  (bN (celsA S Y) (ntr Y) ≤ M + 1 → ∀ H' t ws, Same H H' → H' t = some (.tup ws) → LV (R H') ws (Y.map fun row => rowLn S (bl (celsA S Y) (ntr Y)) row M) → Q (.ref t) H') ∧
  (M + 1 < bN (celsA S Y) (ntr Y) → ∀ H' d, Same H H' → H' d = some (.xd [("part", .str "table")]) → E (.ref tw) (some d) H')
theorem ok_traced (T : Txt K mg) : FnOk P w K mg base (L2N.CX P w) 10 T.a_traced_table T.d_traced_table ["style", "rows"] (spTab T.c_TooWide LnV) := by
  have G_cells_of : FnOk P w K mg base CX0 9 T.a_cells_of T.d_cells_of ["style", "row"] spCellsOf := ok_cells_of T
  have G_boundaries : FnOk P w K mg base CX0 2 T.a_boundaries T.d_boundaries ["tracks", "cells"] spBoundariesL := ok_boundariesL T
  have G_row_strip : FnOk P w K mg base CX0 4 T.a_row_strip T.d_row_strip ["measure", "bounds", "row"] spRowS := ok_row_strip T
  refine okN T.D_traced_table.F sc_traced_table (fun vs H Q E h => ?_) (fun cdv A outer s H vs Q E hr h => ?_)
  · obtain ⟨_, _, _, _, _, _, _, rfl, _⟩ := h
    rfl
  · obtain ⟨va, ta, vp, us, S, Y, M, rfl, ev, e0, sv, st, et, lv, ok, hM, qS, qE⟩ := h
    have n12 := ok.n12
    have lus := lv.1
    have ⟨t1, t8, l96, tok⟩ := tab_ok (S := S) ok
    have rowAt : ∀ t, t < Y.length → ∃ row, Y[t]? = some row ∧ row ∈ Y := fun t ht => ⟨Y[t], List.getElem?_eq_getElem ht, List.getElem_mem ht⟩
    refine ⟨_, (pss_cons (ps_set (i := 2) sc_traced_table.nd rfl (.inr rfl) (pe_ix ix_tup (pv 0) pe_int (fun _ _ => rfl)))
      (pss_cons (ps_setLc (i := 3) (own := [("row", 6)]) (g := gName 6) (tt := tYes) rfl sc_traced_table.nd rfl rfl (sw_true rfl rfl rfl (by decide +kernel)) (pi_tup (pv 1)) (blkOk_by (own := [("row", 6)]) (N := ["style", "rows", "measure", "table", "cells", "bounds", "row", "track", "span", "strip", "_"]) (sc := (defScope s_traced_table)) (by decide +kernel)) (fun _ _ _ _ _ => (pg_name (i := 6) sc_traced_table.nd rfl (.inl rfl))) (fun _ _ _ _ _ => pts_nil) (fun _ _ _ _ _ => (pe_call G_cells_of (hr.mono (by decide)) (by rfl) T.D_cells_of.G T.D_cells_of.F.kp T.D_cells_of.B .nil pass0 (pa_cons (pv 0) (pa_cons (pv 6) pa_nil)))))
      (pss_cons (ps_setLc2 (i := 4) (own := [("row", 6), ("track", 7), ("span", 8), ("strip", 9)]) (vs1 := [7, 8, 9]) (g := (gName 6)) (g1 := (gTup K 3 (gCons (gName 7) (gCons (gName 8) (gCons (gName 9) gNil))))) (tt := tYes) (tt1 := tYes) (wi1 := iList K _) rfl sc_traced_table.nd rfl rfl (sw_true rfl rfl rfl (by decide +kernel)) (pi_list (pv 3)) (blkOk_by (own := [("row", 6), ("track", 7), ("span", 8), ("strip", 9)]) (N := ["style", "rows", "measure", "table", "cells", "bounds", "row", "track", "span", "strip", "_"]) (sc := (defScope s_traced_table)) (by decide +kernel)) (by decide) (fun _ _ _ _ _ => (pg_name (i := 6) sc_traced_table.nd rfl (.inl rfl))) (fun _ _ _ _ _ => pts_nil) (fun _ _ _ _ _ => (pi_list (pv 6))) (fun _ _ _ _ _ => (pg_tup (by rfl) (pgs_cons (pg_name (i := 7) sc_traced_table.nd rfl (.inl rfl)) (pgs_cons (pg_name (i := 8) sc_traced_table.nd rfl (.inl rfl)) (pgs_cons (pg_name (i := 9) sc_traced_table.nd rfl (.inl rfl)) pgs_nil))))) (fun _ _ _ _ _ => pts_nil) (fun _ _ _ _ _ => (pe_tup (pa_cons (pv 7) (pa_cons (pv 8) (pa_cons (pe_callB call_len_str (by rfl) T.n_len PySem.boot_len (pa_cons (pe_ix (r := rIxT K) ix_tup (pv 9) pe_int (fun _ _ => rfl)) pa_nil)) pa_nil))))))
      (pss_cons (ps_set (i := 5) sc_traced_table.nd rfl (.inr rfl) (pe_call G_boundaries (hr.mono (by decide)) (by rfl) T.D_boundaries.G T.D_boundaries.F.kp T.D_boundaries.B .nil pass0 (pa_cons (pe_callB (cr_max (by rfl)) (by rfl) T.n_max (by decide +kernel) (pa_cons (pe_lc (own := [("track", 7), ("span", 8), ("_", 10)]) (g := (gTup K 3 (gCons (gName 7) (gCons (gName 8) (gCons (gName 10) gNil))))) (tt := tYes) rfl sc_traced_table.nd (pi_list (pv 4)) (blkOk_by (own := [("track", 7), ("span", 8), ("_", 10)]) (N := ["style", "rows", "measure", "table", "cells", "bounds", "row", "track", "span", "strip", "_"]) (sc := (defScope s_traced_table)) (by decide +kernel)) (fun _ _ _ _ _ => (pg_tup (by rfl) (pgs_cons (pg_name (i := 7) sc_traced_table.nd rfl (.inl rfl)) (pgs_cons (pg_name (i := 8) sc_traced_table.nd rfl (.inl rfl)) (pgs_cons (pg_name (i := 10) sc_traced_table.nd rfl (.inl rfl)) pgs_nil))))) (fun _ _ _ _ _ => pts_nil) (fun _ _ _ _ _ => (pe_op op_add (pv 7) (pv 8)))) pa_nil)) (pa_cons (pv 4) pa_nil))))
      (pss_cons (ps_if (pt_cmpR op_gt (pe_op op_sub (pe_ix ix_tup (pv 5) (pe_un un_neg pe_int) (fun _ _ => rfl)) pe_int) (pv 2) (nomark _)) (pss_one (L2N.ps_raise rfl (L2N.takes_of rfl rfl rfl rfl) (pmkN_oex T.E_TooWide.O T.E_TooWide.I T.E_TooWide.TI (ok_TooWide T) (hr.mono (by decide)) T.E_TooWide.B (by rfl) T.E_TooWide.G (pa_cons pe_str pa_nil)))) pss_nil)
      (pss_one (ps_ret (pe_callTy call_tuple_of (by rfl) T.n_tuple (by decide +kernel) (pa_cons (pe_lc (own := [("row", 6)]) (g := gName 6) (tt := tYes) rfl sc_traced_table.nd (pi_list (pv 3)) (blkOk_by (own := [("row", 6)]) (N := ["style", "rows", "measure", "table", "cells", "bounds", "row", "track", "span", "strip", "_"]) (sc := (defScope s_traced_table)) (by decide +kernel)) (fun _ _ _ _ _ => (pg_name (i := 6) sc_traced_table.nd rfl (.inl rfl))) (fun _ _ _ _ _ => pts_nil) (fun _ _ _ _ _ => (pe_call G_row_strip (hr.mono (by decide)) (by rfl) T.D_row_strip.G T.D_row_strip.F.kp T.D_row_strip.B .nil pass0 (pa_cons (pv 2) (pa_cons (pv 5) (pa_cons (pv 6) pa_nil)))))) pa_nil))))))))), ?_⟩
    refine ⟨_, rfl, va, _, 0, _, rfl, rfl, SqT.of ev, atI_nat (j := 0) e0, _, rfl, ta, rfl, ⟨_, SqT.of et⟩, fun D nD => ?_⟩
    refine lc_it (walk_tup (K := K) (a := ta) (xs := us)) (fun n H' => ∃ ws, Same H H' ∧ H' D = some (.lst ws) ∧ LV (TrwV S D H') ws (Y.take n)) ⟨[], same_upd (Same.refl H) nD, upd_same, LV.nil⟩ ?_ ?_ ?_
    · rintro i H' _ ⟨_, k, _⟩
      exact SqT.of (k _ _ et)
    · rintro n x Ha H2 hn ⟨ws, k2, eD, lw⟩ ⟨rfl, hx⟩
      obtain ⟨row, er, b, rus, rfl, eb, lr⟩ := lv.at hx
      have hrow : row ∈ Y := List.mem_of_getElem? er
      have lwl := lw.1
      rw [List.length_take] at lwl
      refine ⟨rfl, _, rfl, _, rfl, .ref va, b, rus, S, row, rfl, sv.mono (same_tup k2), st, k2 _ _ eb, lr.mono fun _ _ z => z.kt (same_tup k2), ok.rw row hrow, fun H3 L zs k3 nL eL lz => ?_⟩
      have eD3 := k3 _ _ eD
      have nLD : L ≠ D := fun e => by rw [e, eD] at nL; cases nL
      refine ⟨ws, eD3, szN (by omega), ws ++ [.ref L], same_mut (k2.trans k3) nD, upd_same, ?_⟩
      rw [show Y.take (n + 1) = Y.take n ++ [row] by rw [List.take_succ, er]; rfl]
      exact LV.snoc (lw.mono fun _ _ z => (z.keep k3).put eD3) (TrwV.put ⟨L, zs, rfl, nLD, eL, lz⟩ eD3)
    rintro H1 ⟨rs, k1, eD, lr⟩
    rw [lus, List.take_length] at lr
    have lrl := lr.1
    refine ⟨_, rfl, D, rfl, ⟨_, SqL.of eD⟩, fun C nC => ?_⟩
    refine lc2_out (walk_list (K := K) (a := D) (xs := rs)) (fun i H' => ∃ zs, H' C = some (.lst zs) ∧ LV (ArcV H') zs (celsA S (Y.take i)) ∧ Same H1 H') ⟨[], upd_same, LV.nil, same_upd (Same.refl H1) nC⟩ ?_ ?_ ?_
    · rintro i H' _ ⟨_, _, _, k⟩
      exact SqL.of (k _ _ eD)
    · rintro i x Ha H2 hi ⟨zs, eC, lz, k2⟩ ⟨rfl, hx⟩
      obtain ⟨row, er, L, ls, rfl, nLD, eL, lL⟩ := lr.at hx
      have hrow : row ∈ Y := List.mem_of_getElem? er
      have rok := ok.rw row hrow
      have n8 := rok.n8
      have lsl := lL.1
      have hcl := celsA_len (S := S) (Y := Y.take i) fun r h => (ok.rw r (List.mem_of_mem_take h)).n8
      rw [List.length_take] at hcl
      have lzl := lz.1
      have rtl : (rowT S row row.length).length = row.length := by unfold rowT; rw [List.length_map, List.length_range]
      have ec : celsA S (Y.take (i + 1)) = celsA S (Y.take i) ++ rowA S row row.length := by
        unfold celsA
        rw [List.take_succ, er, List.flatMap_append]
        show _ ++ (rowA S row row.length ++ []) = _
        rw [List.append_nil]
      refine ⟨by kernel_rfl, _, by kernel_rfl, L, rfl, ⟨_, SqL.of (k2 _ _ eL)⟩, ?_⟩
      rw [ec]
      refine lc2_in (walk_list (K := K) (a := L) (xs := ls)) (fun u H' => ∃ zs2, H' C = some (.lst zs2) ∧ LV (ArcV H') zs2 (celsA S (Y.take i) ++ (rowA S row row.length).take u) ∧ Same H1 H') ⟨zs, eC, by rw [List.take_zero, List.append_nil]; exact lz, k2⟩ ?_ ?_ ?_
      · rintro u H' _ ⟨_, _, _, k⟩
        exact SqL.of (k _ _ eL)
      · rintro u y Hb H5 hu ⟨zs2, eC4, lz4, k4⟩ ⟨rfl, hy⟩
        obtain ⟨r, err, b, v, rfl, eb, s1⟩ := lL.at hy
        have hu2 : u < row.length := by omega
        have lz4l := lz4.1
        rw [List.length_append, List.length_take, rowA_len] at lz4l
        have hre : r = cellAt S row u := by
          unfold rowT at err
          rw [List.getElem?_map, List.getElem?_range hu2] at err
          exact (Option.some.inj err).symm
        have cf := cellS_facts st (rok.at hu2).2
        have hr13 : r.2.2.1.length ≤ 1300 := by rw [hre]; exact cf.2.2.2
        obtain ⟨b2, t2, u2, rfl, e1, e2, e3⟩ := s1.kt (same_tup k4)
        have hb : (mkS r.2.2.1).length ≤ sizeLine := by rw [mkS_len]; exact big_ok (by omega)
        refine ⟨b, _, rfl, SqT.of (k4 _ _ eb), rfl, _, _, rfl, _, _, rfl, _, _, rfl, rfl, by kernel_rfl, ?_⟩
        refine ⟨nV r.1, by kernel_rfl, nV r.2.1, by kernel_rfl, .ref b2, by kernel_rfl, b2, _, 0, _, rfl, rfl, SqT.of e1, rfl, _, rfl, hb, by show 3 ≤ sizeLine; decide, fun p np => ?_⟩
        have k5 := same_upd (o := .tup [nV r.1, nV r.2.1, V.int ((mkS r.2.2.1).length : Nat)]) (Same.refl H5) np
        have ep : upd H5 p (.tup [nV r.1, nV r.2.1, V.int ((mkS r.2.2.1).length : Nat)]) p = some (.tup [nV r.1, nV r.2.1, nV r.2.2.1.length]) := by rw [upd_same, mkS_len]; rfl
        generalize upd H5 p (.tup [nV r.1, nV r.2.1, V.int ((mkS r.2.2.1).length : Nat)]) = H6 at k5 ep
        have eC6 := k5 _ _ eC4
        have kt := kt_mut (zs := zs2 ++ [V.ref p]) eC6
        refine ⟨zs2, eC6, szN (by omega), zs2 ++ [.ref p], upd_same, ?_, same_mut (k4.trans k5) nC⟩
        have e : (rowA S row row.length).take (u + 1) = (rowA S row row.length).take u ++ [(r.1, r.2.1, r.2.2.1.length)] := by
          rw [List.take_succ]
          unfold rowA
          rw [List.getElem?_map, err]; rfl
        rw [e, ← List.append_assoc]
        exact LV.snoc (lz4.mono fun _ _ z => z.mono fun a xs e => kt _ _ (k5 _ _ e)) ⟨p, rfl, kt _ _ ep⟩
      · rintro H' ⟨zs2, e4, l4, k4⟩
        rw [lsl, rtl, List.take_of_length_le (Nat.le_of_eq (rowA_len S row row.length))] at l4
        exact ⟨zs2, e4, l4, k4⟩
    rintro H2 ⟨zs, eC, lz, k2⟩
    rw [lrl, List.take_length] at lz
    have lzl := lz.1
    have k12 := k1.trans k2
    have hsp := celsA_sp (S := S) ok
    refine ⟨_, by kernel_rfl, C, rfl, ⟨_, SqL.of eC⟩, fun E2 nE2 => ?_⟩
    refine lc_it (walk_list (K := K) (a := C) (xs := zs)) (fun n H' => Same H2 H' ∧ H' E2 = some (.lst ((((celsA S Y).take n).map fun r : Arc => r.1 + r.2.1).map nV))) ⟨same_upd (Same.refl H2) nE2, upd_same⟩ ?_ ?_ ?_
    · rintro i H' _ ⟨k, _⟩
      exact SqL.of (k _ _ eC)
    · rintro n x Ha H3 hn ⟨k3, eE⟩ ⟨rfl, hx⟩
      obtain ⟨r, er, b, rfl, eb⟩ := lz.at hx
      refine ⟨b, _, rfl, SqT.of (k3 _ _ eb), rfl, _, _, rfl, _, _, rfl, _, _, rfl, rfl, by kernel_rfl, ?_⟩
      refine ⟨nV r.1, by kernel_rfl, nV r.2.1, by kernel_rfl, _, _, rfl, rfl, ?_⟩
      refine ⟨_, eE, by rw [List.length_map, List.length_map, List.length_take]; exact szN (by omega), same_mut k3 nE2, ?_⟩
      rw [upd_same, List.take_succ, er, List.map_append, List.map_append]; rfl
    rintro H3 ⟨k3, eE⟩
    rw [lzl, List.take_length] at eE
    obtain ⟨r0, hr0, er0⟩ := ntr_hit (S := S) ok
    refine ⟨E2, ((celsA S Y).map fun r : Arc => r.1 + r.2.1).map (fun x : Nat => (x : Int)), rfl, SqL.of (by rw [eE, List.map_map, List.map_map, List.map_map]; rfl), ?_, fun m hm hmax => ?_⟩
    · rw [List.length_map, List.length_map]
      exact List.length_pos_of_mem hr0
    have em : m = ((ntr Y : Nat) : Int) := by
      obtain ⟨x, hx, rfl⟩ := List.mem_map.mp hm
      obtain ⟨r, hr, rfl⟩ := List.mem_map.mp hx
      have h1 := (hsp r hr).2
      have h2 := hmax _ (List.mem_map.mpr ⟨_, List.mem_map.mpr ⟨r0, hr0, rfl⟩, rfl⟩)
      omega
    subst em
    have k13 := k12.trans k3
    refine ⟨.ref C, by kernel_rfl, .ref C, ntr Y, celsA S Y, rfl, ⟨C, zs, rfl, k3 _ _ eC, lz.mono fun _ _ z => z.mono (same_tup k3)⟩, tok, fun H4 B k4 eB => ?_⟩
    have k14 := k13.trans k4
    dsimp only [tSeq, tNext, gName, tAsg]
    refine ifs_of (p := (M : Int) < (bN (celsA S Y) (ntr Y) : Int) - 1) (fun R h => ⟨.ref B, by kernel_rfl, 1, rfl, B, _, -1, _, rfl, rfl, SqT.of eB, bl_last _ _, _, _, rfl, rfl, nV M, by kernel_rfl, _, _, rfl, rfl, _, rfl, h⟩) (fun c => ?_) (fun c => ?_)
    · exact raise1 fun H' d s2 e => qE (by omega) H' d (k14.trans s2) e
    have hfit : bN (celsA S Y) (ntr Y) ≤ M + 1 := by omega
    refine ⟨.ref D, by kernel_rfl, D, rfl, ⟨_, SqL.of (k4 _ _ (k3 _ _ (k2 _ _ eD)))⟩, fun F nF => ?_⟩
    have lr4 : LV (TrwV S D H4) rs Y := lr.mono fun _ _ z => ((z.keep k2).keep k3).keep k4
    have eD4 := k4 _ _ (k3 _ _ (k2 _ _ eD))
    refine lc_it (walk_list (K := K) (a := D) (xs := rs)) (fun n H' => ∃ ws, Same H4 H' ∧ H' F = some (.lst ws) ∧ LV (LnV H') ws ((Y.take n).map fun row => rowLn S (bl (celsA S Y) (ntr Y)) row M)) ⟨[], same_upd (Same.refl H4) nF, upd_same, LV.nil⟩ ?_ ?_ ?_
    · rintro i H' _ ⟨_, k, _⟩
      exact SqL.of (k _ _ eD4)
    · rintro n x Ha H5 hn ⟨ws, k5, eF, lw⟩ ⟨rfl, hx⟩
      obtain ⟨row, er, L, ls, rfl, nLD, eL, lL⟩ := lr4.at hx
      have hrow : row ∈ Y := List.mem_of_getElem? er
      have lwl := lw.1
      rw [List.length_map, List.length_take] at lwl
      refine ⟨by kernel_rfl, nV M, by kernel_rfl, .ref B, by kernel_rfl, .ref L, by kernel_rfl, B, L, ls, S, bl (celsA S Y) (ntr Y), row, M, rfl, k5 _ _ eB, k5 _ _ eL, lL.mono fun _ _ z => z.kt (same_tup k5), st, ok.rw row hrow, bs_ok ok hM hfit hrow, fun H6 y k6 hy => ?_⟩
      have eF6 := k6 _ _ eF
      have kt := kt_mut (zs := ws ++ [y]) eF6
      refine ⟨ws, eF6, szN (by omega), ws ++ [y], same_mut (k5.trans k6) nF, upd_same, ?_⟩
      rw [show Y.take (n + 1) = Y.take n ++ [row] by rw [List.take_succ, er]; rfl, List.map_append]
      exact LV.snoc (lw.mono fun _ _ z => z.kt fun a xs e => kt _ _ (k6 _ _ e)) (hy.kt kt)
    rintro H5 ⟨ws, k5, eF, lw⟩
    rw [lrl, List.take_length] at lw
    refine ⟨F, ws, rfl, .inl ⟨SqL.of eF, fun p np => ?_⟩⟩
    exact qS hfit _ p ws (k14.trans (same_upd k5 np)) upd_same (lw.mono fun _ _ z => z.kt (kt_new np))
theorem ok_table_strips (T : Txt K mg) : FnOk P w K mg base (L2N.CX P w) 11 T.a_table_strips T.d_table_strips ["style", "rows"] (spTab T.c_TooWide CvV) := by
  have G_traced_table : FnOk P w K mg base (L2N.CX P w) 10 T.a_traced_table T.d_traced_table ["style", "rows"] (spTab T.c_TooWide LnV) := ok_traced T
  have G_bare : FnOk P w K mg base CX0 1 T.a_bare T.d_bare ["strips"] spBare := ok_bare T
  refine okN T.D_table_strips.F sc_table_strips (fun vs H Q E h => ?_) (fun cdv A outer s H vs Q E hr h => ?_)
  · obtain ⟨_, _, _, _, _, _, _, rfl, _⟩ := h
    rfl
  · obtain ⟨va, ta, vp, us, S, Y, M, rfl, ev, e0, sv, st, et, lv, ok, hM, qS, qE⟩ := h
    have n12 := ok.n12
    refine ⟨_, (pss_one (ps_ret (pe_call G_bare (hr.mono (by decide)) (by rfl) T.D_bare.G T.D_bare.F.kp T.D_bare.B .nil pass0 (pa_cons (pe_callS G_traced_table (hr.mono (by decide)) rfl T.D_traced_table.G T.D_traced_table.F.kp T.D_traced_table.B (fun σ => L2N.passAt (L2N.takes_of rfl rfl rfl rfl) σ) (pa_cons (pv 0) (pa_cons (pv 1) pa_nil))) pa_nil)))), ?_⟩
    refine ⟨_, rfl, _, rfl, va, ta, vp, us, S, Y, M, rfl, ev, e0, sv, st, et, lv, ok, hM, fun hf H1 t ws k1 e1 l1 => ?_, qE⟩
    exact ⟨t, ws, _, rfl, e1, l1, by rw [List.length_map]; omega, fun H2 p cs k2 e2 l2 => qS hf H2 p cs (k1.trans k2) e2 l2⟩
end
end Vf

set_option Elab.async false
set_option linter.all false
set_option maxRecDepth 100000
set_option maxHeartbeats 4000000
namespace Vf
open PySem PySem.Spec PyProof.Rows L2 TL
/-! ### sorted of a list of tuples, by any order that is told -/
structure OrdK {β : Type} (key : β → List V) (enc : β → PyData) (le : β → β → Prop) [DecidableRel le] : Prop where
  lt : ∀ p q, (!PySem.W.dataLt (enc q) (enc p)) = decide (le p q)
  al : ∀ p q, PySem.W.alike (enc p) (enc q) = true
  tp : ∀ p, ∃ x xs, enc p = .tuple (x :: xs)
  dp : ∀ p, (enc p).depth ≤ 2
  rd : ∀ {K : PySem.W.Frag} {H : Hp} {a : Addr} {p : β}, H a = some (.tup (key p)) → Dp K H (.ref a) (enc p)
  tr : ∀ p q r, le p q → le q r → le p r
  to : ∀ p q, le p q ∨ le q p
section
variable {β : Type} {key : β → List V} {enc : β → PyData} {le : β → β → Prop} [DecidableRel le]
theorem erG_of (O : OrdK key enc le) {X : Cx} {pins : List (Addr × Obj)} {σ : L2.St} {H : Hp} {s : Shared} (I : L2.Inv X pins σ H s) : ∀ {vs : List Value} {bs : List (Addr × β)}, PySem.W.EachIs (fun v b => v = Value.ref b.1) vs bs → (∀ y ∈ bs, H y.1 = some (.tup (key y.2))) → PySem.W.EachIs (fun v b => ∃ as, Reads s.heap v (enc b.2) as) vs bs
  | _, _, .nil, _ => .nil
  | _, b :: _, .cons h t, ht => .cons (Dp.reads I _ _ _ (O.rd (ht b List.mem_cons_self)) h) (erG_of O I t fun y hy => ht y (List.mem_cons_of_mem _ hy))
theorem valsG_refs : ∀ {bs : List (Addr × β)} {its : List Value}, Vals (bs.map fun y => V.ref y.1) its → PySem.W.EachIs (fun v b => v = Value.ref b.1) its bs
  | [], _, .nil => .nil
  | b :: bs, _, .cons r t => .cons r (valsG_refs t)
theorem refsG_vals : ∀ {bs : List (Addr × β)} {its : List Value}, PySem.W.EachIs (fun v b => v = Value.ref b.1) its bs → Vals (bs.map fun y => V.ref y.1) its
  | [], _, .nil => .nil
  | b :: bs, _, .cons r t => .cons r (refsG_vals t)
def rSortG (K : PySem.W.Frag) (key : β → List V) (le : β → β → Prop) : List V → Hp → VK → Prop := fun vs H Q => ∃ (a : Addr) (bs : List (Addr × β)), vs = [V.ref a] ∧ SqL K H a (bs.map fun y => V.ref y.1) ∧ (∀ y ∈ bs, H y.1 = some (.tup (key y.2))) ∧ bs.length ≤ 1000 ∧
  ∀ (ys : List (Addr × β)) (p : Addr), ys.Perm bs → ys.Pairwise (fun a b => le a.2 b.2) → H p = none → Q (.ref p) (upd H p (.lst (ys.map fun y => V.ref y.1)))
theorem call_sortG (O : OrdK key enc le) {X : Cx} (hu : X.A.units + 65 < cLine) : CallR X (.builtin "sorted") (rSortG X.K key le) := by
  intro pins s σ H vs us' Q I r h
  obtain ⟨a, bs, rfl, hs, ht, hl0, q⟩ := h
  obtain ⟨its, rv, hl, _⟩ := I.list hs
  rw [Vals.ref1 r]
  have e := valsG_refs rv
  have er := erG_of O I e ht
  refine PySem.W.sorted_data (enc := fun b : Addr × β => enc b.2) hl.isList e er (fun d hd d' hd' => ?_) (.inl fun d hd => ?_) (Nat.le_trans hl0 (by decide)) (fun b _ => ?_) fun out lo eo => ?_
  · obtain ⟨x, _, rfl⟩ := List.mem_map.mp hd
    obtain ⟨y, _, rfl⟩ := List.mem_map.mp hd'
    exact O.al _ _
  · obtain ⟨x, _, rfl⟩ := List.mem_map.mp hd
    exact O.tp _
  · have := O.dp b.2
    show X.A.units + 2 + (enc b.2).depth < cLine
    omega
  · obtain ⟨ep, he'⟩ := PyProof.Rows.sortedAll_at s.heap its out.toArray
    have e2 : PySem.W.dataLe false (fun b : Addr × β => enc b.2) = fun p q => decide (le p.2 q.2) := by
      funext p q
      rw [PySem.W.dataLe_eq]
      exact O.lt _ _
    rw [e2] at eo
    generalize hy : bs.mergeSort (fun p q => decide (le p.2 q.2)) = ys at eo
    have hp : ys.Perm bs := by rw [← hy]; exact List.mergeSort_perm _ _
    have hw : ys.Pairwise (fun a b => le a.2 b.2) := by
      rw [← hy]
      refine (List.pairwise_mergeSort (le := fun p q : Addr × β => decide (le p.2 q.2)) (fun x y z hxy hyz => ?_) (fun x y => ?_) bs).imp fun h => of_decide_eq_true h
      · exact decide_eq_true (O.tr _ _ _ (of_decide_eq_true hxy) (of_decide_eq_true hyz))
      · rw [Bool.or_eq_true]
        rcases O.to x.2 y.2 with c | c
        · exact .inl (decide_eq_true c)
        · exact .inr (decide_eq_true c)
    have hlen : (ys.map fun y => V.ref y.1).length ≤ sizeLine := by rw [List.length_map, hp.length_eq]; exact Nat.le_trans hl0 (by decide)
    exact ⟨.ref _, upd H (s.heap.objs.size + 1) (.lst (ys.map fun y => V.ref y.1)), I.laid (t' := s.toks) (fun _ _ => PyProof.Rows.sortedAll_old) (Nat.le_succ _) ⟨hlen, out, ep, refsG_vals eo, he'⟩, rfl, q ys _ hp hw (I.hok.fresh (Nat.le_succ _))⟩
end
/-! a sign and a number -/
def kW (r : Nat × Nat) : List V := [sgn r.1, natV r.2]
def encWd (r : Nat × Nat) : PyData := .tuple [.str ⟨#[r.1]⟩, .int r.2]
def leW (a b : Nat × Nat) : Prop := a.1 < b.1 ∨ (a.1 = b.1 ∧ a.2 ≤ b.2)
instance : DecidableRel leW := fun a b => by unfold leW; infer_instance
theorem nn_eqv (c d : Nat) : PyData.eqv (.int (c : Int)) (.int (d : Int)) = decide (c = d) := by
  by_cases h : c = d
  · subst h; simp [PyData.eqv]
  · rw [decide_eq_false h]
    simp only [PyData.eqv, beq_eq_false_iff_ne]
    omega
theorem nn_lt (c d : Nat) : PySem.W.dataLt (.int (c : Int)) (.int (d : Int)) = decide (c < d) := by
  rw [PySem.W.dataLt_int]
  exact decide_eq_decide.mpr (by omega)
theorem ordW : OrdK kW encWd leW where
  lt p q := by
    unfold encWd leW
    rw [PySem.W.dataLt_pair (by simp [PySem.W.alike]) (by simp [PySem.W.alike]), sg_eqv, nn_eqv, sg_lt, nn_lt]
    by_cases h1 : q.1 = p.1
    · rw [decide_eq_true h1, if_pos rfl]
      by_cases h2 : q.2 = p.2
      · rw [decide_eq_true h2, if_pos rfl]
        exact (decide_eq_true (by omega)).symm
      · rw [decide_eq_false h2, if_neg Bool.false_ne_true]
        by_cases h3 : q.2 < p.2
        · rw [decide_eq_true h3]; exact (decide_eq_false (by omega)).symm
        · rw [decide_eq_false h3]; exact (decide_eq_true (by omega)).symm
    · rw [decide_eq_false h1, if_neg Bool.false_ne_true]
      by_cases h3 : q.1 < p.1
      · rw [decide_eq_true h3]; exact (decide_eq_false (by omega)).symm
      · rw [decide_eq_false h3]; exact (decide_eq_true (by omega)).symm
  al p q := by simp [encWd, PySem.W.alike, PySem.W.alikeAll]
  tp p := ⟨_, _, rfl⟩
  dp p := by show (1 : Nat) ≤ 2; decide
  rd h := .tup (SqT.of h) (.cons (.str _) (.cons (.int _) .nil))
  tr p q r := by unfold leW; omega
  to p q := by unfold leW; omega
/-! two signs and a number -/
def kC (r : (Nat × Nat) × Nat) : List V := [sgn r.1.1, sgn r.1.2, natV r.2]
def encCt (r : (Nat × Nat) × Nat) : PyData := .tuple [.str ⟨#[r.1.1]⟩, .str ⟨#[r.1.2]⟩, .int r.2]
def leC (a b : (Nat × Nat) × Nat) : Prop := a.1.1 < b.1.1 ∨ (a.1.1 = b.1.1 ∧ (a.1.2 < b.1.2 ∨ (a.1.2 = b.1.2 ∧ a.2 ≤ b.2)))
instance : DecidableRel leC := fun a b => by unfold leC; infer_instance
theorem ordC : OrdK kC encCt leC where
  lt p q := by
    unfold encCt leC
    rw [PySem.W.dataLt_tuple, PySem.W.dataLt_cons (by simp [PySem.W.alike]), PySem.W.dataLt_cons (by simp [PySem.W.alike]), PySem.W.dataLt_cons (by simp [PySem.W.alike]), sg_eqv, sg_eqv, nn_eqv, sg_lt, sg_lt, nn_lt]
    have e : PyProof.Rows.lexLt PyProof.Rows.itemOrd (PySem.W.keyToksAll []) (PySem.W.keyToksAll []) = false := PyProof.Rows.lex_irrefl _
    rw [e]
    by_cases h1 : q.1.1 = p.1.1
    · rw [decide_eq_true h1, if_pos rfl]
      by_cases h2 : q.1.2 = p.1.2
      · rw [decide_eq_true h2, if_pos rfl]
        by_cases h4 : q.2 = p.2
        · rw [decide_eq_true h4, if_pos rfl]
          exact (decide_eq_true (by omega)).symm
        · rw [decide_eq_false h4, if_neg Bool.false_ne_true]
          by_cases h3 : q.2 < p.2
          · rw [decide_eq_true h3]; exact (decide_eq_false (by omega)).symm
          · rw [decide_eq_false h3]; exact (decide_eq_true (by omega)).symm
      · rw [decide_eq_false h2, if_neg Bool.false_ne_true]
        by_cases h3 : q.1.2 < p.1.2
        · rw [decide_eq_true h3]; exact (decide_eq_false (by omega)).symm
        · rw [decide_eq_false h3]; exact (decide_eq_true (by omega)).symm
    · rw [decide_eq_false h1, if_neg Bool.false_ne_true]
      by_cases h3 : q.1.1 < p.1.1
      · rw [decide_eq_true h3]; exact (decide_eq_false (by omega)).symm
      · rw [decide_eq_false h3]; exact (decide_eq_true (by omega)).symm
  al p q := by simp [encCt, PySem.W.alike, PySem.W.alikeAll]
  tp p := ⟨_, _, rfl⟩
  dp p := by show (1 : Nat) ≤ 2; decide
  rd h := .tup (SqT.of h) (.cons (.str _) (.cons (.str _) (.cons (.int _) .nil)))
  tr p q r := by unfold leC; omega
  to p q := by unfold leC; omega
/-! rows and their places -/
theorem lv_bs {β : Type} {f : β → List V} {H : Hp} : ∀ {us : List V} {W : List β}, LV (fun v r => ∃ a, v = V.ref a ∧ H a = some (.tup (f r))) us W → ∃ bs : List (Addr × β), us = (bs.map fun y => V.ref y.1) ∧ W = bs.map (·.2) ∧ ∀ y ∈ bs, H y.1 = some (.tup (f y.2))
  | [], [], _ => ⟨[], rfl, rfl, fun _ h => nomatch h⟩
  | [], _ :: _, h => by cases h.1
  | _ :: _, [], h => by cases h.1
  | u :: us, r :: W, h => by
    obtain ⟨x, ex, a, e, ea⟩ := h.2 0 r rfl
    have ex : u = x := Option.some.inj ex
    obtain ⟨bs, e1, e2, e3⟩ := lv_bs (us := us) (W := W) ⟨Nat.succ.inj h.1, fun i q hq => h.2 (i + 1) q hq⟩
    refine ⟨(a, r) :: bs, by rw [ex, e, e1]; rfl, by rw [e2]; rfl, fun y hy => ?_⟩
    rcases List.mem_cons.mp hy with z | z
    · rw [z]; exact ea
    · exact e3 y z
theorem bs_lv {β : Type} {f : β → List V} {H : Hp} (bs : List (Addr × β)) (h : ∀ y ∈ bs, H y.1 = some (.tup (f y.2))) : LV (fun v r => ∃ a, v = V.ref a ∧ H a = some (.tup (f r))) (bs.map fun y => V.ref y.1) (bs.map (·.2)) := by
  refine ⟨by rw [List.length_map, List.length_map], fun i r e => ?_⟩
  rw [List.getElem?_map] at e
  cases eb : bs[i]? with
  | none => rw [eb] at e; cases e
  | some y =>
    rw [eb] at e
    have e : y.2 = r := Option.some.inj e
    subst e
    exact ⟨.ref y.1, by rw [List.getElem?_map, eb]; rfl, y.1, rfl, h y (List.mem_of_getElem? eb)⟩
theorem lv_rowsW {H : Hp} {v : V} {W : List (Nat × Nat)} (h : RowsV H v (rowsW W)) : ∃ a us, v = .ref a ∧ H a = some (.tup us) ∧ LV (WrR H) us W := by
  obtain ⟨a, us, e, ea, l, r⟩ := h
  refine ⟨a, us, e, ea, by rw [l, len_rW], fun i q hq => ?_⟩
  obtain ⟨b, e1, e2⟩ := r i ([q.1], natV q.2) (by unfold rowsW; rw [List.getElem?_map, hq]; rfl)
  exact ⟨.ref b, e1, b, rfl, e2⟩
theorem lv_rows2 {H : Hp} {v : V} {C : List ((Nat × Nat) × Nat)} (h : RowsV H v (rows2 C)) : ∃ a us, v = .ref a ∧ H a = some (.tup us) ∧ LV (CrR H) us C := by
  obtain ⟨a, us, e, ea, l, r⟩ := h
  refine ⟨a, us, e, ea, by rw [l, len_r2], fun i q hq => ?_⟩
  obtain ⟨b, e1, e2⟩ := r i ([q.1.1, q.1.2], natV q.2) (by unfold rows2; rw [List.getElem?_map, hq]; rfl)
  exact ⟨.ref b, e1, b, rfl, e2⟩
theorem sg_eqV (c d : Nat) : eqV (sgn c) (sgn d) = decide (c = d) := by
  show ((⟨#[c]⟩ : Str) == ⟨#[d]⟩) = _
  exact sg_beq c d
theorem inV_sg (c : Nat) (l : List Nat) : inV (sgn c) (l.map sgn) = decide (c ∈ l) := by
  unfold inV
  rw [List.any_map]
  by_cases h : c ∈ l
  · rw [decide_eq_true h]
    exact List.any_eq_true.mpr ⟨c, h, by show eqV (sgn c) (sgn c) = true; rw [sg_eqV]; exact decide_eq_true rfl⟩
  · rw [decide_eq_false h]
    refine List.any_eq_false.mpr fun q hq => ?_
    show ¬ eqV (sgn q) (sgn c) = true
    rw [sg_eqV]
    exact fun z => h (of_decide_eq_true z ▸ hq)
theorem flat_sg (l : List Nat) : (l.map sgn).all flatV = true := by
  rw [List.all_map]
  exact List.all_eq_true.mpr fun _ _ => rfl
end Vf

set_option Elab.async false
set_option linter.all false
set_option maxRecDepth 100000
set_option maxHeartbeats 4000000
namespace Vf
open PySem PySem.Spec PyProof.Rows L2 TL
theorem slA_fr {K : PySem.W.Frag} {a : Addr} {xs : List V} {lo : Option Int} {H : Hp} {Q : VK} {σ : L2.St} (e : H a = some (.tup xs)) (q : ∀ b H', Same H H' → H' b = some (.tup (cutV xs lo none)) → Q (.ref b) H') : tNoPart σ H (fun u H3 => rSlA K (.ref a) lo u H3 Q) :=
  slA_any e q
/-! ### a style with more widths and cuts -/
structure FcI (W : List (Nat × Nat)) (C : List ((Nat × Nat) × Nat)) (n : Nat) : Prop where
  nw : (W.map Prod.fst).Nodup
  nc : (C.map fun r => r.1.1).Nodup
  lw : W.length ≤ 8 + n
  lc : C.length ≤ 8 + n
  w3 : ∀ r ∈ W, 1 ≤ r.2 ∧ r.2 ≤ 3 ∧ r.1 < 1000 ∧ r.1 ≠ 98 ∧ r.1 ≠ 110
  c3 : ∀ r ∈ C, r.1.1 ∈ W.map Prod.fst ∧ r.2 < wOf W r.1.1 ∧ r.1.1 < 1000 ∧ r.1.2 < 1000
theorem wOf_mem {W : List (Nat × Nat)} (h : (W.map Prod.fst).Nodup) {r : Nat × Nat} (hr : r ∈ W) : wOf W r.1 = r.2 := by
  unfold wOf
  rw [look_of_mem h hr]; rfl
theorem FcI.next {W : List (Nat × Nat)} {C : List ((Nat × Nat) × Nat)} {n : Nat} (h : FcI W C n) : FcI W C (n + 1) := ⟨h.nw, h.nc, by have := h.lw; omega, by have := h.lc; omega, h.w3, h.c3⟩
theorem FcI.addW {W : List (Nat × Nat)} {C : List ((Nat × Nat) × Nat)} {n c w : Nat} (h : FcI W C n) (hc : c ∉ W.map Prod.fst) (h1 : 1 ≤ w) (h3 : w ≤ 3) (hk : c < 1000 ∧ c ≠ 98 ∧ c ≠ 110) : FcI (W ++ [(c, w)]) C (n + 1) := by
  have nd : ((W ++ [(c, w)]).map Prod.fst).Nodup := by
    rw [List.map_append]
    exact nd_snoc2 h.nw hc
  refine ⟨nd, h.nc, ?_, by have := h.lc; omega, fun r hr => ?_, fun r hr => ?_⟩
  · rw [List.length_append]
    have := h.lw
    show W.length + 1 ≤ _
    omega
  · rcases List.mem_append.mp hr with h2 | h2
    · exact h.w3 r h2
    · rw [List.mem_singleton.mp h2]; exact ⟨h1, h3, hk⟩
  · obtain ⟨a, b, c2⟩ := h.c3 r hr
    obtain ⟨q, hq, e⟩ := List.mem_map.mp a
    refine ⟨by rw [List.map_append]; exact List.mem_append_left _ a, ?_, c2⟩
    rw [← e] at b ⊢
    rw [wOf_mem nd (List.mem_append_left _ hq)]
    rwa [wOf_mem h.nw hq] at b
theorem FcI.addC {W : List (Nat × Nat)} {C : List ((Nat × Nat) × Nat)} {n c w c2 t : Nat} (h : FcI W C n) (hc : c ∉ W.map Prod.fst) (h1 : 1 ≤ w) (h3 : w ≤ 3) (hk : c < 1000 ∧ c ≠ 98 ∧ c ≠ 110) (ht : t < w) (hk2 : c2 < 1000) : FcI (W ++ [(c, w)]) (C ++ [((c, c2), t)]) (n + 1) := by
  have a := h.addW hc h1 h3 hk
  refine ⟨a.nw, ?_, a.lw, ?_, a.w3, fun r hr => ?_⟩
  · rw [List.map_append]
    refine nd_snoc2 h.nc fun z => ?_
    obtain ⟨r, hr, e⟩ := List.mem_map.mp z
    have := (h.c3 r hr).1
    rw [e] at this
    exact hc this
  · rw [List.length_append]
    have := h.lc
    show C.length + 1 ≤ _
    omega
  · rcases List.mem_append.mp hr with h2 | h2
    · exact a.c3 r h2
    · rw [List.mem_singleton.mp h2]
      refine ⟨by rw [List.map_append]; exact List.mem_append_right _ (List.mem_singleton.mpr rfl), ?_, hk.1, hk2⟩
      show t < wOf (W ++ [(c, w)]) c
      rw [wOf_mem a.nw (r := (c, w)) (List.mem_append_right _ (List.mem_singleton.mpr rfl))]
      exact ht
theorem FcI.of {S : Sty} (st : StyOk S) (x : StyX S) : FcI S.W S.C 0 := by
  obtain ⟨x1, x2, x3, x4, x5⟩ := x
  have hl := x1.length_le
  rw [List.length_map, List.length_map] at hl
  refine ⟨x2, x2.sublist x1, x3, by omega, fun r hr => ⟨(st.w3 r hr).1, (st.w3 r hr).2, x4 r hr⟩, fun r hr => ⟨x1.subset (List.mem_map.mpr ⟨r, hr, rfl⟩), st.cw r hr, x5 r hr⟩⟩
theorem fc_ok {S : Sty} {W W2 : List (Nat × Nat)} {C C2 : List ((Nat × Nat) × Nat)} {n : Nat} (st : StyOk S) (h : FcI W C n) (hn : n ≤ 10) (pW : W2.Perm W) (sW : W2.Pairwise leW) (pC : C2.Perm C) (sC : C2.Pairwise leC) : StyOk { S with W := W2, C := C2 } := by
  have nw : (W2.map Prod.fst).Nodup := (pW.map Prod.fst).nodup_iff.mpr h.nw
  have nc : (C2.map fun r => r.1.1).Nodup := (pC.map fun r => r.1.1).nodup_iff.mpr h.nc
  have aW : (W2.map Prod.fst).Pairwise (· < ·) := by
    unfold List.Nodup at nw
    rw [List.pairwise_map] at nw ⊢
    refine (sW.and nw).imp fun {a b} ⟨z, y⟩ => ?_
    unfold leW at z
    omega
  have aC : (C2.map Prod.fst).Pairwise ltP := by
    unfold List.Nodup at nc
    rw [List.pairwise_map] at nc ⊢
    refine (sC.and nc).imp fun {a b} ⟨z, y⟩ => ?_
    unfold leC at z
    exact .inl (by omega)
  have hlW := pW.length_eq
  have hlC := pC.length_eq
  have lw := h.lw
  have lc := h.lc
  refine ⟨asc_W aW, asc_2 aC, st.sb, by show W2.length ≤ 100; omega, by show C2.length ≤ 100; omega, st.lb, fun r hr => ?_, fun r hr c hc => ?_, fun r hr c hc => ?_, st.ub, fun r hr => ?_⟩
  · have := h.w3 r (pW.mem_iff.mp hr)
    exact ⟨this.1, this.2.1⟩
  · obtain ⟨r, hr2, rfl⟩ := List.mem_map.mp hr
    have := (h.w3 r (pW.mem_iff.mp hr2)).2.2
    have e : c = r.1 := List.mem_singleton.mp hc
    omega
  · obtain ⟨r, hr2, rfl⟩ := List.mem_map.mp hr
    have ⟨_, _, a, b⟩ := h.c3 r (pC.mem_iff.mp hr2)
    have hc : c ∈ [r.1.1, r.1.2] := hc
    simp only [List.mem_cons, List.not_mem_nil, or_false] at hc
    omega
  · have ⟨a, b, _⟩ := h.c3 r (pC.mem_iff.mp hr)
    obtain ⟨q, hq, e⟩ := List.mem_map.mp a
    show r.2 < wOf W2 r.1.1
    rw [← e] at b ⊢
    rw [wOf_mem nw (pW.mem_iff.mpr hq)]
    rwa [wOf_mem h.nw hq] at b
section
variable {P : Program} {w : World} {K : PySem.W.Frag} {mg : Str → Option Value} {base : Heap}
def spFaced : Sp := fun vs H Q _ => ∃ (d l : Addr) (v : V) (S : Sty), vs = [.ref d, v] ∧ DI d l H ∧ StyV H v S ∧ StyOk S ∧ StyX S ∧ ∀ H' v' S', Kp d H H' → DI d l H' → StyV H' v' S' → StyOk S' → S'.m = S.m → (∀ r ∈ S'.W, r.1 ≠ 98 ∧ r.1 ≠ 110) → (∀ r ∈ S'.C, r.1.1 ∈ S'.W.map Prod.fst) → Q v' H'
theorem ok_faced (T : Txt K mg) : FnOk P w K mg base CX0 3 T.a_law_faced T.d_law_faced ["_law_d", "_law_style_here"] spFaced := by
  have G_law_draw : FnOk P w K mg base CX0 1 T.a_law_draw T.d_law_draw ["_law_d", "_law_many"] spDraw := ok_draw T
  have G_law_pick : FnOk P w K mg base CX0 2 T.a_law_pick T.d_law_pick ["_law_d", "_law_row"] (spPick K) := ok_pick T
  refine T.D_law_faced.F.ok sc_law_faced (fun vs H Q E h => ?_) (fun cdv A outer s H vs Q E hr h => ?_)
  · obtain ⟨d, l, v, S, rfl, _⟩ := h
    rfl
  · obtain ⟨d, l, v, S, rfl, hD, sv, st, sx, q⟩ := h
    obtain ⟨va, wv, cv, bv, pr, rfl, ev, rw, rc, rb⟩ := sv
    obtain ⟨wa, us, rfl, ewa, lw⟩ := lv_rowsW rw
    obtain ⟨ca, cs, rfl, eca, lc⟩ := lv_rows2 rc
    refine ⟨_, (pss_cons (ps_set (i := 2) sc_law_faced.nd rfl (.inl rfl) (pe_callTy call_list_of (by rfl) T.n_list (by decide +kernel) (pa_cons (pe_ix ix_tup (pv 1) pe_int (fun _ _ => rfl)) pa_nil)))
      (pss_cons (ps_set (i := 3) sc_law_faced.nd rfl (.inl rfl) (pe_callTy call_list_of (by rfl) T.n_list (by decide +kernel) (pa_cons (pe_ix ix_tup (pv 1) pe_int (fun _ _ => rfl)) pa_nil)))
      (pss_cons (ps_for PassesOwn.never rfl (pi_range1 (by rfl) T.n_range (pa_cons (pe_call G_law_draw (hr.mono (by decide)) (by rfl) T.D_law_draw.G T.D_law_draw.F.kp T.D_law_draw.B .nil pass0 (pa_cons (pv 0) (pa_cons pe_int pa_nil))) pa_nil)) (pg_name (i := 4) sc_law_faced.nd rfl (.inl rfl)) (pss_cons (ps_set (i := 5) sc_law_faced.nd rfl (.inl rfl) (pe_call G_law_pick (hr.mono (by decide)) (by rfl) T.D_law_pick.G T.D_law_pick.F.kp T.D_law_pick.B .nil pass0 (pa_cons (pv 0) (pa_cons pe_str pa_nil))))
      (pss_one (ps_if (pt_cmpR op_notIn_seq (pv 5) (pe_lc (own := [("_law_one", 7), ("_law_wide", 6)]) (g := (gTup K 2 (gCons (gName 7) (gCons (gName 6) gNil)))) (tt := tYes) rfl sc_law_faced.nd (pi_list (pv 2)) (blkOk_by (own := [("_law_one", 7), ("_law_wide", 6)]) (N := ["_law_d", "_law_style_here", "_law_widths", "_law_cuts", "_law_k", "_law_sign", "_law_wide", "_law_one"]) (sc := (defScope s_law_faced)) (by decide +kernel)) (fun _ _ _ _ _ => (pg_tup (by rfl) (pgs_cons (pg_name (i := 7) sc_law_faced.nd rfl (.inl rfl)) (pgs_cons (pg_name (i := 6) sc_law_faced.nd rfl (.inl rfl)) pgs_nil)))) (fun _ _ _ _ _ => pts_nil) (fun _ _ _ _ _ => (pv 7))) (by rfl)) (pss_cons (ps_set (i := 6) sc_law_faced.nd rfl (.inl rfl) (pe_op op_add pe_int (pe_call G_law_draw (hr.mono (by decide)) (by rfl) T.D_law_draw.G T.D_law_draw.F.kp T.D_law_draw.B .nil pass0 (pa_cons (pv 0) (pa_cons pe_int pa_nil)))))
      (pss_cons (ps_expr (pe_bm PySem.F.plainAttrs_list PySem.F.slot_list_append PySem.F.type_list_append mt_append (pv 2) (pa_cons (pe_tup (pa_cons (pv 5) (pa_cons (pv 6) pa_nil))) pa_nil)))
      (pss_one (ps_if (pt_cmpR op_eq (pe_call G_law_draw (hr.mono (by decide)) (by rfl) T.D_law_draw.G T.D_law_draw.F.kp T.D_law_draw.B .nil pass0 (pa_cons (pv 0) (pa_cons pe_int pa_nil))) pe_int (nomark _)) (pss_one (ps_expr (pe_bm PySem.F.plainAttrs_list PySem.F.slot_list_append PySem.F.type_list_append mt_append (pv 3) (pa_cons (pe_tup (pa_cons (pv 5) (pa_cons (pe_call G_law_pick (hr.mono (by decide)) (by rfl) T.D_law_pick.G T.D_law_pick.F.kp T.D_law_pick.B .nil pass0 (pa_cons (pv 0) (pa_cons pe_str pa_nil))) (pa_cons (pe_op op_add pe_int (pe_call G_law_draw (hr.mono (by decide)) (by rfl) T.D_law_draw.G T.D_law_draw.F.kp T.D_law_draw.B .nil pass0 (pa_cons (pv 0) (pa_cons (pe_op op_sub (pv 6) pe_int) pa_nil)))) pa_nil)))) pa_nil)))) pss_nil)))) pss_nil))))
      (pss_one (ps_ret (pe_op op_catA (pe_op op_catA (pe_slice sl_tupA (pv 1) po_none (po_some pe_int)) (pe_tup (pa_cons (pe_callTy call_tuple_of (by rfl) T.n_tuple (by decide +kernel) (pa_cons (pe_callB (call_sortG ordW (hu65 hr)) (by rfl) T.n_sorted (by decide +kernel) (pa_cons (pv 2) pa_nil)) pa_nil)) (pa_cons (pe_callTy call_tuple_of (by rfl) T.n_tuple (by decide +kernel) (pa_cons (pe_callB (call_sortG ordC (hu65 hr)) (by rfl) T.n_sorted (by decide +kernel) (pa_cons (pv 3) pa_nil)) pa_nil)) pa_nil)))) (pe_slice sl_tupA (pv 1) (po_some pe_int) po_none))))))), ?_⟩
    refine ⟨_, rfl, va, _, 3, _, rfl, rfl, SqT.of ev, rfl, wa, us, rfl, .inr (SqT.of ewa), fun A0 nA => ?_⟩
    have nAd := hD.nd nA
    have k0 := (Kp.refl d H).new (o := .lst us) nA
    have D0 := hD.new (o := .lst us) nA
    have eA0 : upd H A0 (.lst us) A0 = some (.lst us) := upd_same
    have t0 : TK H (upd H A0 (.lst us)) := TK.new (TK.refl _) nA
    generalize upd H A0 (.lst us) = H0 at k0 D0 eA0 t0
    refine ⟨_, rfl, va, _, 4, _, rfl, rfl, SqT.of (t0 _ _ ev), rfl, ca, cs, rfl, .inr (SqT.of (t0 _ _ eca)), fun C0 nC => ?_⟩
    have nCd := D0.nd nC
    have nAC : A0 ≠ C0 := ne_of_none eA0 nC
    have nCH := none_kp k0 nCd.1 nC
    have k1 := k0.new (o := .lst cs) nC
    have D1 := D0.new (o := .lst cs) nC
    have eC1 : upd H0 C0 (.lst cs) C0 = some (.lst cs) := upd_same
    have eA1 : upd H0 C0 (.lst cs) A0 = some (.lst us) := by rw [upd_ne nAC]; exact eA0
    have t1 : TK H (upd H0 C0 (.lst cs)) := t0.trans (TK.new (TK.refl _) nC)
    generalize upd H0 C0 (.lst cs) = H1 at k1 D1 eC1 eA1 t1
    refine ⟨_, rfl, d, l, 4, rfl, D1, by decide, fun H2 r k2 D2 a1 a2 => ?_⟩
    obtain ⟨g, rfl, hg⟩ := draw_nt (by decide) a1 a2
    have hg : g < 4 := by omega
    refine ⟨(g : Int), rfl, by omega, by omega, ?_⟩
    rw [Int.toNat_natCast]
    have t2 : TK H H2 := t1.trans (kpTup D1 k2)
    refine for_it walk_range (fun n σ' H' => ∃ (W : List (Nat × Nat)) (C : List ((Nat × Nat) × Nat)) (ws ys : List V) (x4 x5 x6 : Option V), σ' = [some (.ref d), some (.ref va), some (.ref A0), some (.ref C0), x4, x5, x6, none] ∧ Kp d H H' ∧ DI d l H' ∧ TK H H' ∧ H' A0 = some (.lst ws) ∧ H' C0 = some (.lst ys) ∧ LV (WrR H') ws W ∧ LV (CrR H') ys C ∧ FcI W C n)
      ⟨S.W, S.C, us, cs, none, none, none, rfl, k1.trans k2, D2, t2, k2 _ _ nAd.1 eA1, k2 _ _ nCd.1 eC1, lw.mono fun _ _ z => WrR.mn.to z t2, lc.mono fun _ _ z => CrR.mn.to z t2, FcI.of st sx⟩ (fun _ _ _ _ _ => trivial) ?_ ?_
    · rintro n x σ' Ha H3 hn ⟨W, C, ws, ys, x4, x5, x6, rfl, k3, D3, t3, eA3, eC3, lw3, lc3, fi⟩ ⟨rfl, hx⟩
      have wl := lw3.1
      have cl := lc3.1
      have flw := fi.lw
      have flc := fi.lc
      refine ⟨_, rfl, d, l, .str ("()()!'+./:;<=>dgkpwz" : Str), _, rfl, D3, .inr ⟨("()()!'+./:;<=>dgkpwz" : Str).cps.toList, rfl, rfl⟩, by decide +kernel, by decide +kernel, fun H4 v k4 D4 hv => ?_⟩
      obtain ⟨c, hc, rfl⟩ := List.mem_map.mp hv
      have hc : c < 1000 ∧ c ≠ 98 ∧ c ≠ 110 := of_decide_eq_true (List.all_eq_true.mp (show (("()()!'+./:;<=>dgkpwz" : Str).cps.toList.all fun c => decide (c < 1000 ∧ c ≠ 98 ∧ c ≠ 110)) = true by decide +kernel) c hc)
      have eA4 := k4 _ _ nAd.1 eA3
      have eC4 := k4 _ _ nCd.1 eC3
      have t34 : TK H3 H4 := kpTup D3 k4
      have k14 := k3.trans k4
      refine ⟨_, rfl, _, rfl, A0, rfl, ⟨_, SqL.of eA4⟩, fun E0 nE => ?_⟩
      have nEd := D4.nd nE
      refine lc_it (walk_list (K := K) (a := A0) (xs := ws)) (fun i H' => Same H4 H' ∧ H' E0 = some (.lst (((W.take i).map Prod.fst).map sgn))) ⟨same_upd (Same.refl H4) nE, upd_same⟩ ?_ ?_ ?_
      · rintro i H' _ ⟨k, _⟩
        exact SqL.of (k _ _ eA4)
      · rintro i y Hb H5 hi ⟨k5, eE⟩ ⟨rfl, hy⟩
        obtain ⟨p, ep, b, rfl, eb⟩ := (lw3.mono fun _ _ z => WrR.mn.to z t34).at hy
        refine ⟨b, _, rfl, SqT.of (k5 _ _ eb), rfl, _, _, rfl, _, _, rfl, rfl, by kernel_rfl, ?_⟩
        refine ⟨sgn p.1, by kernel_rfl, _, eE, by rw [List.length_map, List.length_map, List.length_take]; exact szN (by omega), same_mut k5 nE, ?_⟩
        rw [upd_same, List.take_succ, ep, List.map_append, List.map_append]; rfl
      rintro H5 ⟨k5, eE⟩
      rw [wl, List.take_length] at eE
      have D5 := D4.keep k5
      have k15 := k14.trans (Kp.of_same k5)
      have eA5 := k5 _ _ eA4
      have eC5 := k5 _ _ eC4
      have t35 := t34.trans (TK.same k5)
      by_cases hin : c ∈ W.map Prod.fst
      · refine ⟨E0, _, rfl, .inl (SqL.of eE), rfl, flat_sg _, false, congrArg V.bl (by show (!inV (sgn c) ((W.map Prod.fst).map sgn)) = false; rw [inV_sg, decide_eq_true hin]; rfl), ?_⟩
        exact ⟨W, C, ws, ys, _, _, _, rfl, k15, D5, t3.trans t35, eA5, eC5, lw3.mono fun _ _ z => WrR.mn.to z t35, lc3.mono fun _ _ z => CrR.mn.to z t35, fi.next⟩
      refine ⟨E0, _, rfl, .inl (SqL.of eE), rfl, flat_sg _, true, congrArg V.bl (by show (!inV (sgn c) ((W.map Prod.fst).map sgn)) = true; rw [inV_sg, decide_eq_false hin]; rfl), ?_⟩
      refine ⟨_, rfl, d, l, 2, rfl, D5, by decide, fun H6 r k6 D6 a1 a2 => ?_⟩
      obtain ⟨g6, rfl, hg6⟩ := draw_nt (by decide) a1 a2
      have hg6 : g6 < 2 := by omega
      refine ⟨_, _, rfl, rfl, ?_⟩
      have eA6 := k6 _ _ nAd.1 eA5
      have eC6 := k6 _ _ nCd.1 eC5
      have t36 := t35.trans (kpTup D5 k6)
      refine ⟨.ref A0, rfl, .inl ⟨rfl, _, .inl (.inl eA6)⟩, ?_⟩
      refine ⟨_, rfl, _, rfl, by show 2 ≤ sizeLine; decide, fun p np => ?_⟩
      have e6 : V.int (2 + (g6 : Int)) = natV (2 + g6) := congrArg V.int (by omega)
      generalize hX : upd H6 p (.tup [sV [c], (fun i j => V.int (i + j)) 2 (g6 : Int)]) = X
      have hX : X = upd H6 p (.tup [sgn c, natV (2 + g6)]) := by rw [← hX, ← e6]; rfl
      have eAX : X A0 = some (.lst ws) := by rw [hX, upd_ne (ne_of_none eA6 np)]; exact eA6
      have eCX : X C0 = some (.lst ys) := by rw [hX, upd_ne (ne_of_none eC6 np)]; exact eC6
      have kX : Kp d H X := by rw [hX]; exact (k15.trans k6).new np
      have DX : DI d l X := by rw [hX]; exact D6.new np
      have tX : TK H3 X := by rw [hX]; exact TK.new t36 np
      have rX : WrR X (.ref p) (c, 2 + g6) := by rw [hX]; exact ⟨p, rfl, upd_same⟩
      clear hX
      refine ⟨A0, ws, _, rfl, rfl, eAX, szN (by omega), ?_⟩
      have kY := kX.mut (o := .lst (ws ++ [.ref p])) nA
      have DY := DX.at (o := .lst (ws ++ [.ref p])) nAd.1 nAd.2
      have eAY : upd X A0 (.lst (ws ++ [.ref p])) A0 = some (.lst (ws ++ [.ref p])) := upd_same
      have eCY : upd X A0 (.lst (ws ++ [.ref p])) C0 = some (.lst ys) := by rw [upd_ne nAC.symm]; exact eCX
      have tY : TK X (upd X A0 (.lst (ws ++ [.ref p]))) := TK.mut (TK.refl _) eAX
      generalize upd X A0 (.lst (ws ++ [.ref p])) = Y at kY DY eAY eCY tY
      have lwY : LV (WrR Y) (ws ++ [.ref p]) (W ++ [(c, 2 + g6)]) := ((lw3.mono fun _ _ z => WrR.mn.to z tX).snoc rX).mono fun _ _ z => WrR.mn.to z tY
      have t3Y := tX.trans tY
      refine ⟨_, rfl, d, l, 2, rfl, DY, by decide, fun H8 r k8 D8 a1 a2 => ?_⟩
      obtain ⟨g8, rfl, hg8⟩ := draw_nt (by decide) a1 a2
      have eA8 := k8 _ _ nAd.1 eAY
      have eC8 := k8 _ _ nCd.1 eCY
      have t8 : TK Y H8 := kpTup DY k8
      have kH8 := kY.trans k8
      by_cases c1 : g8 = 1
      · subst c1
        refine ⟨rfl, true, bTr rfl, ?_⟩
        refine ⟨.ref C0, rfl, .inl ⟨rfl, _, .inl (.inl eC8)⟩, ?_⟩
        refine ⟨_, rfl, _, rfl, d, l, .str ("abdn()" : Str), _, rfl, D8, .inr ⟨("abdn()" : Str).cps.toList, rfl, rfl⟩, by decide +kernel, by decide +kernel, fun H9 v k9 D9 hv => ?_⟩
        obtain ⟨c2, hc2, rfl⟩ := List.mem_map.mp hv
        have hc2 : c2 < 1000 := of_decide_eq_true (List.all_eq_true.mp (show (("abdn()" : Str).cps.toList.all fun c => decide (c < 1000)) = true by decide +kernel) c2 hc2)
        refine ⟨_, rfl, _, rfl, _, _, rfl, rfl, d, l, 2 + (g6 : Int) - 1, rfl, D9, by omega, fun H10 r k10 D10 b1 b2 => ?_⟩
        obtain ⟨j, rfl, hj⟩ := draw_nt (m := 2 + (g6 : Int) - 1) (by omega) b1 b2
        refine ⟨_, _, rfl, rfl, by show 3 ≤ sizeLine; decide, fun t nt => ?_⟩
        have e1 : V.int (1 + (j : Int)) = natV (1 + j) := congrArg V.int (by omega)
        have k810 := k8.trans (k9.trans k10)
        have eA10 := (k9.trans k10) _ _ nAd.1 eA8
        have eC10 := (k9.trans k10) _ _ nCd.1 eC8
        generalize hZ : upd H10 t (.tup [sV [c], sV [c2], (fun i j => V.int (i + j)) 1 (j : Int)]) = Z
        have hZ : Z = upd H10 t (.tup [sgn c, sgn c2, natV (1 + j)]) := by rw [← hZ, ← e1]; rfl
        have eAZ : Z A0 = some (.lst (ws ++ [.ref p])) := by rw [hZ, upd_ne (ne_of_none eA10 nt)]; exact eA10
        have eCZ : Z C0 = some (.lst ys) := by rw [hZ, upd_ne (ne_of_none eC10 nt)]; exact eC10
        have kZ : Kp d H Z := by rw [hZ]; exact (kY.trans k810).new nt
        have DZ : DI d l Z := by rw [hZ]; exact D10.new nt
        have tZ : TK Y Z := by rw [hZ]; exact TK.new (kpTup DY k810) nt
        have rZ : CrR Z (.ref t) ((c, c2), 1 + j) := by rw [hZ]; exact ⟨t, rfl, upd_same⟩
        clear hZ
        refine ⟨C0, ys, _, rfl, rfl, eCZ, szN (by omega), ?_⟩
        have tm : TK Z (upd Z C0 (.lst (ys ++ [V.ref t]))) := TK.mut (TK.refl _) eCZ
        have tYm := tZ.trans tm
        refine ⟨W ++ [(c, 2 + g6)], C ++ [((c, c2), 1 + j)], ws ++ [.ref p], ys ++ [.ref t], _, _, _, rfl, kZ.mut nCH, DZ.at nCd.1 nCd.2, (t3.trans t3Y).trans tYm, by rw [upd_ne nAC]; exact eAZ, upd_same, lwY.mono fun _ _ z => WrR.mn.to z tYm, ((lc3.mono fun _ _ z => CrR.mn.to z (t3Y.trans tZ)).snoc rZ).mono fun _ _ z => CrR.mn.to z tm, fi.addC hin (by omega) (by omega) hc (by omega) hc2⟩
      · refine ⟨rfl, false, bFa (fun z => c1 (nV_inj z)), ?_⟩
        exact ⟨W ++ [(c, 2 + g6)], C, ws ++ [.ref p], ys, _, _, _, rfl, kH8, D8, (t3.trans t3Y).trans t8, eA8, eC8, lwY.mono fun _ _ z => WrR.mn.to z t8, lc3.mono fun _ _ z => CrR.mn.to z (t3Y.trans t8), fi.addW hin (by omega) (by omega) hc⟩
    rintro σ1 H3 ⟨W, C, ws, ys, x4, x5, x6, rfl, k3, D3, t3, eA3, eC3, lw3, lc3, fi⟩
    have wl := lw3.1
    have cl := lc3.1
    have flw := fi.lw
    have flc := fi.lc
    obtain ⟨bs, rfl, rfl, hbs⟩ := lv_bs (f := kW) lw3
    obtain ⟨ks, rfl, rfl, hks⟩ := lv_bs (f := kC) lc3
    rw [List.length_map] at wl cl flw flc
    refine ⟨.ref va, rfl, 3, rfl, slA_any (t3 _ _ ev) fun b1 H4 k4 e4 => ?_⟩
    have eA4 := k4 _ _ eA3
    have eC4 := k4 _ _ eC3
    have T4 := TK.same k4
    refine ⟨_, rfl, A0, bs, rfl, SqL.of eA4, fun y hy => T4 _ _ (hbs y hy), by omega, fun y1 p1 pm1 sw1 np1 => ⟨p1, _, rfl, .inl ⟨SqL.of upd_same, fun q1 nq1 => ?_⟩⟩⟩
    have k5 := (same_upd (o := .lst (y1.map fun y => V.ref y.1)) (Same.refl H4) np1)
    generalize upd H4 p1 (.lst (y1.map fun y => V.ref y.1)) = H5 at k5 nq1
    have k6 := same_upd (o := .tup (y1.map fun y => V.ref y.1)) (Same.refl H5) nq1
    have eq1 : upd H5 q1 (.tup (y1.map fun y => V.ref y.1)) q1 = some (.tup (y1.map fun y => V.ref y.1)) := upd_same
    generalize upd H5 q1 (.tup (y1.map fun y => V.ref y.1)) = H6 at k6 eq1
    have k46 := k5.trans k6
    refine ⟨_, rfl, C0, ks, rfl, SqL.of (k46 _ _ eC4), fun y hy => k46 _ _ (T4 _ _ (hks y hy)), by omega, fun y2 p2 pm2 sw2 np2 => ⟨p2, _, rfl, .inl ⟨SqL.of upd_same, fun q2 nq2 => ?_⟩⟩⟩
    have k7 := (same_upd (o := .lst (y2.map fun y => V.ref y.1)) (Same.refl H6) np2)
    generalize upd H6 p2 (.lst (y2.map fun y => V.ref y.1)) = H7 at k7 nq2
    have k8 := same_upd (o := .tup (y2.map fun y => V.ref y.1)) (Same.refl H7) nq2
    have eq2 : upd H7 q2 (.tup (y2.map fun y => V.ref y.1)) q2 = some (.tup (y2.map fun y => V.ref y.1)) := upd_same
    generalize upd H7 q2 (.tup (y2.map fun y => V.ref y.1)) = H8 at k8 eq2
    have k68 := k7.trans k8
    have k48 := k46.trans k68
    refine ⟨by show 2 ≤ sizeLine; decide, fun tp ntp => ?_⟩
    have k9 := same_upd (o := .tup [V.ref q1, .ref q2]) (Same.refl H8) ntp
    have etp : upd H8 tp (.tup [V.ref q1, .ref q2]) tp = some (.tup [V.ref q1, .ref q2]) := upd_same
    generalize upd H8 tp (.tup [V.ref q1, .ref q2]) = H9 at k9 etp
    have k49 := k48.trans k9
    refine catA_any (k49 _ _ e4) etp (by show 3 + 2 ≤ sizeLine; decide) fun c1 H10 k10 e10 => ?_
    have k410 := k49.trans k10
    refine ⟨.ref va, rfl, 5, rfl, slA_fr (T4.trans (TK.same k410) _ _ (t3 _ _ ev)) fun b2 H11 k11 e11 => ?_⟩
    refine catA_any (k11 _ _ e10) e11 (by show 5 + 2 ≤ sizeLine; decide) fun c2 H12 k12 e12 => ?_
    have k412 := (k410.trans k11).trans k12
    have kAll := k4.trans k412
    have hp1 := pm1.map (fun y : Addr × Nat × Nat => y.2)
    have hp2 := pm2.map (fun y : Addr × (Nat × Nat) × Nat => y.2)
    refine q H12 (.ref c2) { S with W := y1.map (·.2), C := y2.map (·.2) } (k3.trans (Kp.of_same kAll)) (D3.keep kAll) ⟨c2, .ref q1, .ref q2, bv, pr, rfl, e12, ?_, ?_, rb.mono (t3.trans (TK.same kAll))⟩ (fc_ok st fi (by omega) hp1 ?_ hp2 ?_) rfl (fun r hr => (fi.w3 r (hp1.mem_iff.mp hr)).2.2.2) (fun r hr => (hp1.map Prod.fst).mem_iff.mpr (fi.c3 r (hp2.mem_iff.mp hr)).1)
    · exact rowsW_of ((((k68.trans k9).trans k10).trans (k11.trans k12)) _ _ eq1) (bs_lv (f := kW) y1 fun y hy => kAll _ _ (hbs y (pm1.mem_iff.mp hy)))
    · exact rows2_of ((((k9.trans k10).trans k11).trans k12) _ _ eq2) (bs_lv (f := kC) y2 fun y hy => kAll _ _ (hks y (pm2.mem_iff.mp hy)))
    · rw [List.pairwise_map]; exact sw1
    · rw [List.pairwise_map]; exact sw2
end
end Vf

set_option Elab.async false
set_option linter.all false
set_option maxRecDepth 100000
set_option maxHeartbeats 4000000
namespace Vf
open PySem PySem.Spec PyProof.Rows L2 TL
theorem ifs_k {c : TT} {s t : TS} {D : Ends} {σ : L2.St} {H : Hp} (Mid : L2.St → Hp → Prop) (h : (∀ σ' H', Mid σ' H' → D.nx σ' H') → tIfS c s t D σ H) (k : ∀ σ' H', Mid σ' H' → D.nx σ' H') : tIfS c s t D σ H := h k
theorem cW_chr {c : Nat} (h : cW c = true) : c < 1114112 ∧ c ≠ 95 := by
  have hm : c ∈ sW.cps.toList := of_decide_eq_true h
  have := List.all_eq_true.mp (show (sW.cps.toList.all fun c => decide (c < 1114112) && !decide (c = 95)) = true by decide +kernel) c hm
  rw [Bool.and_eq_true] at this
  exact ⟨of_decide_eq_true this.1, fun e => by rw [decide_eq_true e] at this; exact absurd this.2 (by decide)⟩
theorem wd_cW {zs : List Nat} (h : ∀ c ∈ zs, cW c = true) (hl : zs.length ≤ 16) : WdOk zs := ⟨by omega, fun c hc => (cW_chr (h c hc)).1, fun c hc => (cW_chr (h c hc)).2⟩
section
variable {P : Program} {w : World} {K : PySem.W.Frag} {mg : Str → Option Value} {base : Heap}
def spStyD : Sp := fun vs H Q _ => ∃ (d l : Addr), vs = [.ref d] ∧ DI d l H ∧ ∀ H' v S (m : Nat), Kp d H H' → DI d l H' → StyV H' v S → StyOk S → S.m = (m : Int) → 6 ≤ m → m ≤ 60 → (∀ r ∈ S.W, r.1 ≠ 98 ∧ r.1 ≠ 110) → (∀ r ∈ S.C, r.1.1 ∈ S.W.map Prod.fst) → Q v H'
theorem ok_style_drawn (T : Txt K mg) : FnOk P w K mg base CX0 4 T.a_law_style_drawn T.d_law_style_drawn ["_law_d"] spStyD := by
  have G_law_draw : FnOk P w K mg base CX0 1 T.a_law_draw T.d_law_draw ["_law_d", "_law_many"] spDraw := ok_draw T
  have G_law_style : FnOk P w K mg base CX0 3 T.a_law_style T.d_law_style ["_law_d", "_law_measure", "_law_depth", "_law_columns"] spStyle := ok_style T
  have G_law_faced : FnOk P w K mg base CX0 3 T.a_law_faced T.d_law_faced ["_law_d", "_law_style_here"] spFaced := ok_faced T
  refine T.D_law_style_drawn.F.ok sc_law_style_drawn (fun vs H Q E h => ?_) (fun cdv A outer s H vs Q E hr h => ?_)
  · obtain ⟨d, l, rfl, _⟩ := h
    rfl
  · obtain ⟨d, l, rfl, hD, q⟩ := h
    refine ⟨_, (pss_one (ps_ret (pe_call G_law_faced (hr.mono (by decide)) (by rfl) T.D_law_faced.G T.D_law_faced.F.kp T.D_law_faced.B .nil pass0 (pa_cons (pv 0) (pa_cons (pe_call G_law_style (hr.mono (by decide)) (by rfl) T.D_law_style.G T.D_law_style.F.kp T.D_law_style.B .nil pass0 (pa_cons (pv 0) (pa_cons (pe_op op_add pe_int (pe_call G_law_draw (hr.mono (by decide)) (by rfl) T.D_law_draw.G T.D_law_draw.F.kp T.D_law_draw.B .nil pass0 (pa_cons (pv 0) (pa_cons pe_int pa_nil)))) (pa_cons (pe_op op_add pe_int (pe_call G_law_draw (hr.mono (by decide)) (by rfl) T.D_law_draw.G T.D_law_draw.F.kp T.D_law_draw.B .nil pass0 (pa_cons (pv 0) (pa_cons pe_int pa_nil)))) (pa_cons (pe_op op_add pe_int (pe_call G_law_draw (hr.mono (by decide)) (by rfl) T.D_law_draw.G T.D_law_draw.F.kp T.D_law_draw.B .nil pass0 (pa_cons (pv 0) (pa_cons pe_int pa_nil)))) pa_nil))))) pa_nil))))), ?_⟩
    refine ⟨_, rfl, _, rfl, _, rfl, d, l, 55, rfl, hD, by decide, fun H1 r k1 D1 a1 a2 => ?_⟩
    obtain ⟨g1, rfl, hg1⟩ := draw_nt (by decide) a1 a2
    refine ⟨_, _, rfl, rfl, _, rfl, d, l, 38, rfl, D1, by decide, fun H2 r k2 D2 a1 a2 => ?_⟩
    obtain ⟨g2, rfl, hg2⟩ := draw_nt (by decide) a1 a2
    refine ⟨_, _, rfl, rfl, _, rfl, d, l, 3, rfl, D2, by decide, fun H3 r k3 D3 a1 a2 => ?_⟩
    obtain ⟨g3, rfl, hg3⟩ := draw_nt (by decide) a1 a2
    refine ⟨_, _, rfl, rfl, d, l, _, _, _, rfl, D3, fun H4 v S k4 D4 sv st sx em => ?_⟩
    refine ⟨d, l, v, S, rfl, D4, sv, st, sx, fun H5 v5 S5 k5 D5 sv5 st5 em5 nb5 nc5 => ?_⟩
    exact q H5 v5 S5 (6 + g1) ((((k1.trans k2).trans k3).trans k4).trans k5) D5 sv5 st5 (by rw [em5, em]; show (6 : Int) + (g1 : Int) = _; omega) (by omega) (by omega) nb5 nc5
def spLongW : Sp := fun vs H Q _ => ∃ (d l : Addr) (n : Nat), vs = [.ref d, nV n] ∧ DI d l H ∧ n ≤ 100 ∧ ∀ H' zs, Kp d H H' → DI d l H' → zs.length = n → (∀ c ∈ zs, c < 1114112 ∧ c ≠ 95) → Q (sV zs) H'
theorem ok_long_word (T : Txt K mg) : FnOk P w K mg base CX0 3 T.a_law_long_word T.d_law_long_word ["_law_d", "_law_many"] spLongW := by
  have G_law_pick : FnOk P w K mg base CX0 2 T.a_law_pick T.d_law_pick ["_law_d", "_law_row"] (spPick K) := ok_pick T
  refine T.D_law_long_word.F.ok sc_law_long_word (fun vs H Q E h => ?_) (fun cdv A outer s H vs Q E hr h => ?_)
  · obtain ⟨d, l, n, rfl, _⟩ := h
    rfl
  · obtain ⟨d, l, n, rfl, hD, hn, q⟩ := h
    refine ⟨_, (pss_cons (ps_set (i := 2) sc_law_long_word.nd rfl (.inr rfl) pe_str)
      (pss_one (ps_ret (pe_join pe_str (pe_lc (own := [("_law_k", 3)]) (g := gName 3) (tt := tYes) rfl sc_law_long_word.nd (pi_range1 (by rfl) T.n_range (pa_cons (pv 1) pa_nil)) (blkOk_by (own := [("_law_k", 3)]) (N := ["_law_d", "_law_many", "_law_signs", "_law_k"]) (sc := (defScope s_law_long_word)) (by decide +kernel)) (fun _ _ _ _ _ => (pg_name (i := 3) sc_law_long_word.nd rfl (.inl rfl))) (fun _ _ _ _ _ => pts_nil) (fun _ _ _ _ _ => (pe_call G_law_pick (hr.mono (by decide)) (by rfl) T.D_law_pick.G T.D_law_pick.F.kp T.D_law_pick.B .nil pass0 (pa_cons (pv 0) (pa_cons (pv 2) pa_nil))))))))), ?_⟩
    have hz2 : (("abcdefghijklmnopqrstuvwxyz0123456789.,:;!?'()+=<>*/" : Str).cps.toList.all fun c => decide (c < 1114112 ∧ c ≠ 95)) = true := by decide +kernel
    refine ⟨⟨_, rfl⟩, _, rfl, (n : Int), rfl, by omega, by omega, ?_⟩
    rw [Int.toNat_natCast]
    refine fun D nD => lc_range (lo := 0) (n := n) (PvS (One ("abcdefghijklmnopqrstuvwxyz0123456789.,:;!?'()+=<>*/" : Str).cps.toList) d l H D) (PvS.start hD nD) (fun i H1 hi p => ⟨rfl, ?_⟩) (fun H' p => ?_)
    · exact ⟨_, rfl, _, rfl, pick_one (cs := ("abcdefghijklmnopqrstuvwxyz0123456789.,:;!?'()+=<>*/" : Str).cps.toList) p.dice (by decide +kernel) (by decide +kernel) fun H2 zs k2 d2 r => p.step hD nD (by omega) k2 d2 r⟩
    · obtain ⟨zss, hl, hR, K4, D4, e1⟩ := p
      have ⟨f1, f2⟩ := one_flat hR
      refine ⟨_, D, zss.map mkS, rfl, rfl, .inl (SqL.of (by rw [e1, map_sV])), ?_, ?_⟩
      · rw [sum_len, f1, show (("" : Str)).length = 0 from by rw [empty_mk, mkS_len]; rfl]; omega
      · rw [join_mk]
        exact q H' _ K4 D4 (by rw [f1, hl]) fun c hc => of_decide_eq_true (List.all_eq_true.mp hz2 c (f2 c hc))
def spCellD : Sp := fun vs H Q _ => ∃ (d l : Addr) (n : Nat), vs = [.ref d, nV n] ∧ DI d l H ∧ ∀ H' t us ws, Kp d H H' → DI d l H' → H' t = some (.tup us) → LV (WkV H') us ws → WsOk ws → Q (.ref t) H'
theorem ok_cell_drawn (T : Txt K mg) : FnOk P w K mg base CX0 4 T.a_law_cell_drawn T.d_law_cell_drawn ["_law_d", "_law_cells"] spCellD := by
  have G_law_draw : FnOk P w K mg base CX0 1 T.a_law_draw T.d_law_draw ["_law_d", "_law_many"] spDraw := ok_draw T
  have G_law_pick : FnOk P w K mg base CX0 2 T.a_law_pick T.d_law_pick ["_law_d", "_law_row"] (spPick K) := ok_pick T
  have G_law_rare : FnOk P w K mg base CX0 2 T.a_law_rare T.d_law_rare ["_law_d", "_law_many"] spRare := ok_rare T
  have G_law_word : FnOk P w K mg base CX0 3 T.a_law_word T.d_law_word ["_law_d", "_law_low", "_law_high"] spWord := ok_word T
  have G_law_long_word : FnOk P w K mg base CX0 3 T.a_law_long_word T.d_law_long_word ["_law_d", "_law_many"] spLongW := ok_long_word T
  refine T.D_law_cell_drawn.F.ok sc_law_cell_drawn (fun vs H Q E h => ?_) (fun cdv A outer s H vs Q E hr h => ?_)
  · obtain ⟨d, l, n, rfl, _⟩ := h
    rfl
  · obtain ⟨d, l, n, rfl, hD, q⟩ := h
    refine ⟨_, (pss_cons (ps_set (i := 2) sc_law_cell_drawn.nd rfl (.inl rfl) (pe_call G_law_pick (hr.mono (by decide)) (by rfl) T.D_law_pick.G T.D_law_pick.F.kp T.D_law_pick.B .nil pass0 (pa_cons (pv 0) (pa_cons (pe_lst (pa_cons pe_int (pa_cons pe_int (pa_cons pe_int (pa_cons pe_int (pa_cons pe_int (pa_cons pe_int pa_nil))))))) pa_nil))))
      (pss_cons (ps_if (PW.pt (pw_and (pt_cmpR op_lt (pv 1) pe_int (nomark _)) (pw_and1 (pt_val (pe_call G_law_rare (hr.mono (by decide)) (by rfl) T.D_law_rare.G T.D_law_rare.F.kp T.D_law_rare.B .nil pass0 (pa_cons (pv 0) (pa_cons pe_int pa_nil))))))) (pss_one (ps_set (i := 2) sc_law_cell_drawn.nd rfl (.inl rfl) (pe_op op_add pe_int (pe_call G_law_draw (hr.mono (by decide)) (by rfl) T.D_law_draw.G T.D_law_draw.F.kp T.D_law_draw.B .nil pass0 (pa_cons (pv 0) (pa_cons pe_int pa_nil)))))) pss_nil)
      (pss_cons (ps_set (i := 3) sc_law_cell_drawn.nd rfl (.inl rfl) (pe_lst pa_nil))
      (pss_cons (ps_for PassesOwn.never rfl (pi_range1 (by rfl) T.n_range (pa_cons (pv 2) pa_nil)) (pg_name (i := 4) sc_law_cell_drawn.nd rfl (.inl rfl)) (pss_cons (ps_set (i := 5) sc_law_cell_drawn.nd rfl (.inl rfl) (pe_call G_law_word (hr.mono (by decide)) (by rfl) T.D_law_word.G T.D_law_word.F.kp T.D_law_word.B .nil pass0 (pa_cons (pv 0) (pa_cons pe_int (pa_cons pe_int pa_nil)))))
      (pss_cons (ps_if (pt_val (pe_call G_law_rare (hr.mono (by decide)) (by rfl) T.D_law_rare.G T.D_law_rare.F.kp T.D_law_rare.B .nil pass0 (pa_cons (pv 0) (pa_cons pe_int pa_nil)))) (pss_one (ps_set (i := 5) sc_law_cell_drawn.nd rfl (.inl rfl) (pe_call G_law_long_word (hr.mono (by decide)) (by rfl) T.D_law_long_word.G T.D_law_long_word.F.kp T.D_law_long_word.B .nil pass0 (pa_cons (pv 0) (pa_cons (pe_op op_add pe_int (pe_call G_law_draw (hr.mono (by decide)) (by rfl) T.D_law_draw.G T.D_law_draw.F.kp T.D_law_draw.B .nil pass0 (pa_cons (pv 0) (pa_cons pe_int pa_nil)))) pa_nil))))) pss_nil)
      (pss_one (ps_expr (pe_bm PySem.F.plainAttrs_list PySem.F.slot_list_append PySem.F.type_list_append mt_append (pv 3) (pa_cons (pe_tup (pa_cons (pv 5) (pa_cons (pe_op op_fdivN (pe_call G_law_draw (hr.mono (by decide)) (by rfl) T.D_law_draw.G T.D_law_draw.F.kp T.D_law_draw.B .nil pass0 (pa_cons (pv 0) (pa_cons pe_int pa_nil))) pe_int) pa_nil))) pa_nil)))))))
      (pss_one (ps_ret (pe_callTy call_tuple_of (by rfl) T.n_tuple (by decide +kernel) (pa_cons (pv 3) pa_nil)))))))), ?_⟩
    refine ⟨_, rfl, ⟨by show 6 ≤ sizeLine; decide, fun p np => ?_⟩⟩
    have k1 := (Kp.refl d H).new (o := .lst [V.int 0, .int 1, .int 1, .int 1, .int 2, .int 3]) np
    refine ⟨d, l, _, _, rfl, hD.new np, .inl ⟨p, rfl, (hD.nd np).1, SqL.of upd_same⟩, by show 0 < 6; decide, by show 6 ≤ 1000; decide, fun H2 v k2 D2 hv => ?_⟩
    have hm : ∃ m : Nat, v = nV m ∧ m ≤ 3 := by
      simp only [List.mem_cons, List.not_mem_nil, or_false] at hv
      rcases hv with rfl | rfl | rfl | rfl | rfl | rfl
      · exact ⟨0, rfl, by decide⟩
      · exact ⟨1, rfl, by decide⟩
      · exact ⟨1, rfl, by decide⟩
      · exact ⟨1, rfl, by decide⟩
      · exact ⟨2, rfl, by decide⟩
      · exact ⟨3, rfl, by decide⟩
    obtain ⟨m, rfl, hm⟩ := hm
    have k12 := k1.trans k2
    clear k1 k2 hv
    dsimp only [tSeq, tNext, gName, tAsg]
    refine ifs_k (fun σ' H' => ∃ m : Nat, m ≤ 7 ∧ σ' = [some (.ref d), some (nV n), some (nV m), none, none, none] ∧ Kp d H H' ∧ DI d l H') (fun k => ?_) ?_
    · by_cases c : n < 8
      · refine ⟨_, rfl, _, _, rfl, rfl, true, bT (by omega), ?_⟩
        refine ⟨_, rfl, d, l, 24, rfl, D2, by decide, fun H3 b k3 D3 => ⟨b, rfl, ?_⟩⟩
        cases b with
        | true =>
          refine ⟨_, rfl, d, l, 4, rfl, D3, by decide, fun H4 r k4 D4 a1 a2 => ?_⟩
          obtain ⟨g, rfl, hg⟩ := draw_nt (by decide) a1 a2
          exact ⟨_, _, rfl, rfl, k _ _ ⟨4 + g, by omega, congrArg (fun z => [some (V.ref d), some (nV n), some (V.int z), none, none, none]) (by omega), (k12.trans k3).trans k4, D4⟩⟩
        | false => exact k _ _ ⟨m, by omega, rfl, k12.trans k3, D3⟩
      · exact ⟨_, rfl, _, _, rfl, rfl, false, bF (by omega), k _ _ ⟨m, by omega, rfl, k12, D2⟩⟩
    rintro σ3 H3 ⟨m, hm, rfl, k3, D3⟩
    refine ⟨by show 0 ≤ sizeLine; decide, fun D nD => ?_⟩
    have nDd := D3.nd nD
    have k4 := k3.new (o := .lst []) nD
    have D4 := D3.new (o := .lst []) nD
    have eD : upd H3 D (.lst []) D = some (.lst []) := upd_same
    generalize upd H3 D (.lst []) = H4 at k4 D4 eD
    refine ⟨_, rfl, (m : Int), rfl, by omega, by omega, ?_⟩
    rw [Int.toNat_natCast]
    refine for_it walk_range (fun i σ' H' => ∃ (x4 x5 : Option V) (us : List V) (ws : List Wrd), σ' = [some (.ref d), some (nV n), some (nV m), some (.ref D), x4, x5] ∧ Kp d H H' ∧ DI d l H' ∧ H' D = some (.lst us) ∧ LV (WkV H') us ws ∧ ws.length = i ∧ ∀ y ∈ ws, WdOk y.1 ∧ 0 < y.1.length ∧ y.2 ≤ 1) ⟨_, _, [], [], rfl, k4, D4, eD, LV.nil, rfl, fun _ h => nomatch h⟩ (fun _ _ _ _ _ => trivial) ?_ ?_
    · rintro i x σ' Ha H5 hi ⟨x4, x5, us, ws, rfl, k5, D5, eD5, lw, hl, hw⟩ ⟨rfl, hx⟩
      have lus := lw.1
      refine ⟨_, rfl, d, l, 1, 4, rfl, D5, by decide, by decide, by decide, fun H6 zs k6 D6 h1 h2 h3 => ?_⟩
      have wd := wd_cW h3 (by omega)
      have k16 := k5.trans k6
      have eD6 := k6 _ _ nDd.1 eD5
      have lw6 : LV (WkV H6) us ws := lw.mono fun _ _ z => z.kt (kpTup D5 k6)
      dsimp only [tSeq, tNext, gName, tAsg]
      refine ifs_k (fun σ' H' => ∃ (x4 : Option V) (zs : List Nat), σ' = [some (.ref d), some (nV n), some (nV m), some (.ref D), x4, some (sV zs)] ∧ Kp d H H' ∧ DI d l H' ∧ H' D = some (.lst us) ∧ LV (WkV H') us ws ∧ WdOk zs ∧ 0 < zs.length) (fun k => ?_) ?_
      · refine ⟨_, rfl, d, l, 16, rfl, D6, by decide, fun H7 b k7 D7 => ?_⟩
        refine ⟨b, rfl, ?_⟩
        have lw7 : LV (WkV H7) us ws := lw6.mono fun _ _ z => z.kt (kpTup D6 k7)
        have eD7 := k7 _ _ nDd.1 eD6
        cases b with
        | true =>
          refine ⟨_, rfl, _, rfl, d, l, 16, rfl, D7, by decide, fun H8 r k8 D8 a1 a2 => ?_⟩
          obtain ⟨g, rfl, hg⟩ := draw_nt (by decide) a1 a2
          refine ⟨_, _, rfl, rfl, d, l, 1 + g, congrArg (fun z => [V.ref d, V.int z]) (by omega), D8, by omega, fun H9 ys k9 D9 hl hz => k _ _ ⟨_, ys, rfl, (k16.trans k7).trans (k8.trans k9), D9, k9 _ _ nDd.1 (k8 _ _ nDd.1 eD7), lw7.mono fun _ _ z => (z.kt (kpTup D7 k8)).kt (kpTup D8 k9), ⟨by omega, fun c hc => (hz c hc).1, fun c hc => (hz c hc).2⟩, by omega⟩⟩
        | false => exact k _ _ ⟨_, zs, rfl, k16.trans k7, D7, eD7, lw7, wd, by omega⟩
      rintro σ7 H7 ⟨y4, ys, rfl, k7, D7, eD7, lw7, wd7, h07⟩
      refine ⟨.ref D, rfl, .inl ⟨rfl, _, .inl (.inl eD7)⟩, ?_⟩
      refine ⟨_, rfl, _, rfl, d, l, 3, rfl, D7, by decide, fun H8 r k8 D8 a1 a2 => ?_⟩
      obtain ⟨g, rfl, hg⟩ := draw_nt (by decide) a1 a2
      have eD8 := k8 _ _ nDd.1 eD7
      have lw8 : LV (WkV H8) us ws := lw7.mono fun _ _ z => z.kt (kpTup D7 k8)
      refine ⟨_, _, rfl, rfl, ⟨by decide, by decide⟩, by show 2 ≤ sizeLine; decide, fun p np => ?_⟩
      have e8 : V.int ((g : Int).fdiv 2) = nV (g / 2) := fdiv_nV g 2
      generalize hX : upd H8 p (.tup [sV ys, (fun i j => V.int (Int.fdiv i j)) (g : Int) 2]) = X
      have hX : X = upd H8 p (.tup [sV ys, nV (g / 2)]) := by rw [← hX, ← e8]
      have eDX : X D = some (.lst us) := by rw [hX, upd_ne (ne_of_none eD8 np)]; exact eD8
      have kX : Kp d H X := by rw [hX]; exact (k7.trans k8).new np
      have DX : DI d l X := by rw [hX]; exact D8.new np
      have rX : WkV X (.ref p) (ys, g / 2) := by rw [hX]; exact ⟨p, rfl, upd_same⟩
      have lX : LV (WkV X) (us ++ [.ref p]) (ws ++ [(ys, g / 2)]) := LV.snoc (lw8.mono fun _ _ z => by rw [hX]; exact z.kt (kt_new np)) rX
      clear hX
      refine ⟨D, us, _, rfl, rfl, eDX, szN (by omega), ?_⟩
      refine ⟨_, _, us ++ [.ref p], ws ++ [(ys, g / 2)], rfl, kX.mut (none_kp k3 nDd.1 nD), DX.at nDd.1 nDd.2, upd_same, lX.mono fun _ _ z => z.kt (kt_mut eDX), by rw [List.length_append, hl]; rfl, fun y hy => ?_⟩
      rcases List.mem_append.mp hy with hy | hy
      · exact hw y hy
      · rw [List.mem_singleton.mp hy]; exact ⟨wd7, h07, by show g / 2 ≤ 1; omega⟩
    · rintro σ1 H5 ⟨x4, x5, us, ws, rfl, k5, D5, eD5, lw, hl, hw⟩
      refine ⟨_, rfl, D, us, rfl, .inl ⟨SqL.of eD5, fun t nt => ?_⟩⟩
      exact q _ t us ws (k5.new nt) (D5.new nt) upd_same (lw.mono fun _ _ z => z.kt (kt_new nt)) ⟨by omega, hw⟩
end
end Vf

set_option Elab.async false
set_option linter.all false
set_option maxRecDepth 100000
set_option maxHeartbeats 4000000
namespace Vf
open PySem PySem.Spec PyProof.Rows L2 TL
theorem tif_k {c : TT} {a b : TE} {σ : L2.St} {H : Hp} {Q : VK} (Mid : V → Hp → Prop) (h : (∀ x H', Mid x H' → Q x H') → tIf c a b σ H Q) (k : ∀ x H', Mid x H' → Q x H') : tIf c a b σ H Q := h k
theorem tfor_if {te : TE} {g : TG} {s : TS} {D : Ends} {σ : L2.St} {H : Hp} (Mid : V → Hp → Prop) (h : ∀ Q : VK, (∀ x H', Mid x H' → Q x H') → te σ H Q) (k : ∀ x H', Mid x H' → tFor (iRng1 (tCons (fun _ _ Q => Q x H') tNil)) g s D σ H) : tFor (iRng1 (tCons te tNil)) g s D σ H := h _ k
theorem gNameA (i : Nat) (x : V) (σ : L2.St) (H : Hp) (R : L2.St → Hp → Prop) : gName i x σ H R = R (σ.set i (some x)) H := rfl
theorem tSeqA (a b : TS) (D : Ends) (σ : L2.St) (H : Hp) : tSeq a b D σ H = a { D with nx := b D } σ H := rfl
theorem trk_all (row : List Cel) : trk row row.length = (row.map (·.1)).sum := by
  unfold trk
  rw [List.take_length]
theorem trk_snoc (row : List Cel) (c : Cel) : trk (row ++ [c]) (row ++ [c]).length = trk row row.length + c.1 := by
  rw [trk_all, trk_all, List.map_append, List.sum_append]; rfl
section
variable {P : Program} {w : World} {K : PySem.W.Frag} {mg : Str → Option Value} {base : Heap}
def spRowD : Sp := fun vs H Q _ => ∃ (d l : Addr) (n : Nat), vs = [.ref d, nV n] ∧ DI d l H ∧ 1 ≤ n ∧ n ≤ 8 ∧ ∀ H' v row, Kp d H H' → DI d l H' → RowV H' v row → RwOk row → Q v H'
theorem ok_row_drawn (T : Txt K mg) : FnOk P w K mg base CX0 5 T.a_law_row_drawn T.d_law_row_drawn ["_law_d", "_law_many"] spRowD := by
  have G_law_draw : FnOk P w K mg base CX0 1 T.a_law_draw T.d_law_draw ["_law_d", "_law_many"] spDraw := ok_draw T
  have G_law_rare : FnOk P w K mg base CX0 2 T.a_law_rare T.d_law_rare ["_law_d", "_law_many"] spRare := ok_rare T
  have G_law_cell_drawn : FnOk P w K mg base CX0 4 T.a_law_cell_drawn T.d_law_cell_drawn ["_law_d", "_law_cells"] spCellD := ok_cell_drawn T
  refine T.D_law_row_drawn.F.ok sc_law_row_drawn (fun vs H Q E h => ?_) (fun cdv A outer s H vs Q E hr h => ?_)
  · obtain ⟨d, l, n, rfl, _⟩ := h
    rfl
  · obtain ⟨d, l, n, rfl, hD, hn1, hn8, q⟩ := h
    refine ⟨_, (pss_cons (ps_set (i := 2) sc_law_row_drawn.nd rfl (.inl rfl) (pe_lst pa_nil))
      (pss_cons (ps_set (i := 3) sc_law_row_drawn.nd rfl (.inl rfl) pe_int)
      (pss_cons (ps_for PassesOwn.never rfl (pi_range1 (by rfl) T.n_range (pa_cons (pe_op op_add pe_int (pe_call G_law_draw (hr.mono (by decide)) (by rfl) T.D_law_draw.G T.D_law_draw.F.kp T.D_law_draw.B .nil pass0 (pa_cons (pv 0) (pa_cons (pv 1) pa_nil)))) pa_nil)) (pg_name (i := 4) sc_law_row_drawn.nd rfl (.inl rfl)) (pss_one (ps_if (pt_cmpR op_gt (pv 3) pe_int (nomark _)) (pss_cons (ps_set (i := 5) sc_law_row_drawn.nd rfl (.inl rfl) pe_int)
      (pss_cons (ps_if (pt_cmpR op_eq (pe_call G_law_draw (hr.mono (by decide)) (by rfl) T.D_law_draw.G T.D_law_draw.F.kp T.D_law_draw.B .nil pass0 (pa_cons (pv 0) (pa_cons pe_int pa_nil))) pe_int (nomark _)) (pss_one (ps_set (i := 5) sc_law_row_drawn.nd rfl (.inl rfl) (pe_op op_add pe_int (pe_call G_law_draw (hr.mono (by decide)) (by rfl) T.D_law_draw.G T.D_law_draw.F.kp T.D_law_draw.B .nil pass0 (pa_cons (pv 0) (pa_cons (pe_callB (call_min2 (by rfl)) (by rfl) T.n_min (by decide +kernel) (pa_cons (pv 3) (pa_cons pe_int pa_nil))) pa_nil)))))) pss_nil)
      (pss_cons (ps_if (pt_val (pe_call G_law_rare (hr.mono (by decide)) (by rfl) T.D_law_rare.G T.D_law_rare.F.kp T.D_law_rare.B .nil pass0 (pa_cons (pv 0) (pa_cons pe_int pa_nil)))) (pss_one (ps_set (i := 5) sc_law_row_drawn.nd rfl (.inl rfl) (pe_op op_add pe_int (pe_call G_law_draw (hr.mono (by decide)) (by rfl) T.D_law_draw.G T.D_law_draw.F.kp T.D_law_draw.B .nil pass0 (pa_cons (pv 0) (pa_cons (pv 3) pa_nil)))))) pss_nil)
      (pss_cons (ps_expr (pe_bm PySem.F.plainAttrs_list PySem.F.slot_list_append PySem.F.type_list_append mt_append (pv 2) (pa_cons (pe_tup (pa_cons (pv 5) (pa_cons (pe_call G_law_cell_drawn (hr.mono (by decide)) (by rfl) T.D_law_cell_drawn.G T.D_law_cell_drawn.F.kp T.D_law_cell_drawn.B .nil pass0 (pa_cons (pv 0) (pa_cons (pv 1) pa_nil))) pa_nil))) pa_nil)))
      (pss_one (ps_set (i := 3) sc_law_row_drawn.nd rfl (.inl rfl) (pe_op op_sub (pv 3) (pv 5)))))))) pss_nil)))
      (pss_one (ps_ret (pe_callTy call_tuple_of (by rfl) T.n_tuple (by decide +kernel) (pa_cons (pv 2) pa_nil))))))), ?_⟩
    refine ⟨by show 0 ≤ sizeLine; decide, fun R nR => ?_⟩
    have nRd := hD.nd nR
    have k1 := (Kp.refl d H).new (o := .lst []) nR
    have D1 := hD.new (o := .lst []) nR
    have eR : upd H R (.lst []) R = some (.lst []) := upd_same
    generalize upd H R (.lst []) = H1 at k1 D1 eR
    refine ⟨_, rfl, _, rfl, d, l, (n : Int), rfl, D1, by omega, fun H2 r k2 D2 a1 a2 => ?_⟩
    obtain ⟨g, rfl, hg⟩ := draw_nt (m := (n : Int)) (by omega) a1 a2
    refine ⟨_, _, rfl, rfl, 1 + (g : Int), rfl, by omega, by omega, ?_⟩
    rw [show (1 + (g : Int)).toNat = 1 + g by omega]
    refine for_it walk_range (fun i σ' H' => ∃ (x4 x5 : Option V) (us : List V) (row : List Cel) (room : Nat), σ' = [some (.ref d), some (nV n), some (.ref R), some (nV room), x4, x5] ∧ Kp d H H' ∧ DI d l H' ∧ H' R = some (.lst us) ∧ LV (CelV H') us row ∧ trk row row.length + room = 8 ∧ row.length ≤ i ∧ (1 ≤ i → 1 ≤ row.length) ∧ ∀ c ∈ row, 1 ≤ c.1 ∧ WsOk c.2) ⟨_, _, [], [], 8, rfl, k1.trans k2, D2, k2 _ _ nRd.1 eR, LV.nil, rfl, Nat.zero_le _, fun h => absurd h (by decide), fun _ h => nomatch h⟩ (fun _ _ _ _ _ => trivial) ?_ ?_
    · rintro i x σ' Ha H3 hi ⟨x4, x5, us, row, room, rfl, k3, D3, eR3, lr, ht, hl, hp, hc⟩ ⟨rfl, hx⟩
      have lus := lr.1
      by_cases c0 : 0 < room
      · refine ⟨_, rfl, _, _, rfl, rfl, true, bT (by omega), ?_⟩
        dsimp only [tSeq, tNext, gName, tAsg]
        rw [if_pos rfl]
        show tIfS _ _ _ _ _ _
        refine ifs_k (fun σ' H' => ∃ s : Nat, 1 ≤ s ∧ s ≤ room ∧ σ' = [some (.ref d), some (nV n), some (.ref R), some (nV room), some x, some (nV s)] ∧ Kp d H H' ∧ DI d l H' ∧ H' R = some (.lst us) ∧ LV (CelV H') us row) (fun k => ?_) ?_
        · refine ⟨_, rfl, d, l, 3, rfl, D3, by decide, fun H4 r k4 D4 a1 a2 => ?_⟩
          obtain ⟨g4, rfl, hg4⟩ := draw_nt (by decide) a1 a2
          have eR4 := k4 _ _ nRd.1 eR3
          have lr4 : LV (CelV H4) us row := lr.mono fun _ _ z => z.kt (kpTup D3 k4)
          by_cases c1 : g4 = 1
          · subst c1
            refine ⟨rfl, true, bTr rfl, ?_⟩
            refine ⟨_, rfl, _, rfl, (room : Int), 3, rfl, d, l, (if (3 : Int) < (room : Int) then 3 else (room : Int)), rfl, D4, by split <;> omega, fun H5 r k5 D5 a1 a2 => ?_⟩
            obtain ⟨g, rfl, hg⟩ := draw_nt (m := if (3 : Int) < (room : Int) then 3 else (room : Int)) (by split <;> omega) a1 a2
            have hg : g < room := by split at hg <;> omega
            exact ⟨_, _, rfl, rfl, k _ _ ⟨1 + g, by omega, by omega, congrArg (fun z => [some (V.ref d), some (nV n), some (V.ref R), some (nV room), some x, some (V.int z)]) (by omega), (k3.trans k4).trans k5, D5, k5 _ _ nRd.1 eR4, lr4.mono fun _ _ z => z.kt (kpTup D4 k5)⟩⟩
          · refine ⟨rfl, false, bFa (fun z => c1 (nV_inj z)), ?_⟩
            exact k _ _ ⟨1, by omega, by omega, rfl, k3.trans k4, D4, eR4, lr4⟩
        rintro σ4 H4 ⟨s4, h14, h24, rfl, k4, D4, eR4, lr4⟩
        dsimp only [tSeq, tNext, gName, tAsg]
        refine ifs_k (fun σ' H' => ∃ s : Nat, 1 ≤ s ∧ s ≤ room ∧ σ' = [some (.ref d), some (nV n), some (.ref R), some (nV room), some x, some (nV s)] ∧ Kp d H H' ∧ DI d l H' ∧ H' R = some (.lst us) ∧ LV (CelV H') us row) (fun k => ?_) ?_
        · refine ⟨_, rfl, d, l, 32, rfl, D4, by decide, fun H5 b k5 D5 => ⟨b, rfl, ?_⟩⟩
          have eR5 := k5 _ _ nRd.1 eR4
          have lr5 : LV (CelV H5) us row := lr4.mono fun _ _ z => z.kt (kpTup D4 k5)
          cases b with
          | true =>
            refine ⟨_, rfl, _, rfl, d, l, (room : Int), rfl, D5, by omega, fun H6 r k6 D6 a1 a2 => ?_⟩
            obtain ⟨g, rfl, hg⟩ := draw_nt (m := (room : Int)) (by omega) a1 a2
            exact ⟨_, _, rfl, rfl, k _ _ ⟨1 + g, by omega, by omega, congrArg (fun z => [some (V.ref d), some (nV n), some (V.ref R), some (nV room), some x, some (V.int z)]) (by omega), (k4.trans k5).trans k6, D6, k6 _ _ nRd.1 eR5, lr5.mono fun _ _ z => z.kt (kpTup D5 k6)⟩⟩
          | false => exact k _ _ ⟨s4, h14, h24, rfl, k4.trans k5, D5, eR5, lr5⟩
        rintro σ5 H5 ⟨s5, h15, h25, rfl, k5, D5, eR5, lr5⟩
        refine ⟨.ref R, rfl, .inl ⟨rfl, _, .inl (.inl eR5)⟩, ?_⟩
        refine ⟨_, rfl, _, rfl, _, rfl, d, l, n, rfl, D5, fun H6 t wus ws k6 D6 et lw wok => ⟨by show 2 ≤ sizeLine; decide, fun p np => ?_⟩⟩
        have eR6 := k6 _ _ nRd.1 eR5
        have lr6 : LV (CelV H6) us row := lr5.mono fun _ _ z => z.kt (kpTup D5 k6)
        have eRX : upd H6 p (.tup [nV s5, .ref t]) R = some (.lst us) := by rw [upd_ne (ne_of_none eR6 np)]; exact eR6
        have kX : Kp d H (upd H6 p (.tup [nV s5, .ref t])) := (k5.trans k6).new np
        have DX : DI d l (upd H6 p (.tup [nV s5, .ref t])) := D6.new np
        have rX : CelV (upd H6 p (.tup [nV s5, .ref t])) (.ref p) (s5, ws) := ⟨p, t, wus, rfl, upd_same, kt_new np _ _ et, lw.mono fun _ _ z => z.kt (kt_new np)⟩
        have lX : LV (CelV (upd H6 p (.tup [nV s5, .ref t]))) (us ++ [.ref p]) (row ++ [(s5, ws)]) := LV.snoc (lr6.mono fun _ _ z => z.kt (kt_new np)) rX
        generalize upd H6 p (.tup [nV s5, .ref t]) = X at eRX kX DX rX lX
        refine ⟨R, us, _, rfl, rfl, eRX, szN (by omega), ?_⟩
        refine ⟨_, rfl, _, rfl, _, _, rfl, rfl, ?_⟩
        refine ⟨_, _, us ++ [.ref p], row ++ [(s5, ws)], room - s5, congrArg (fun z => [some (V.ref d), some (nV n), some (V.ref R), some (V.int z), some x, some (nV s5)]) (show (room : Int) - (s5 : Int) = ((room - s5 : Nat) : Int) by omega), kX.mut nR, DX.at nRd.1 nRd.2, upd_same, lX.mono fun _ _ z => z.kt (kt_mut eRX), ?_, ?_, ?_, fun c hc2 => ?_⟩
        · rw [trk_snoc]
          show trk row row.length + s5 + (room - s5) = 8
          omega
        · rw [List.length_append]
          show row.length + 1 ≤ i + 1
          omega
        · rw [List.length_append]
          intro _
          show 1 ≤ row.length + 1
          omega
        · rcases List.mem_append.mp hc2 with hc2 | hc2
          · exact hc c hc2
          · rw [List.mem_singleton.mp hc2]; exact ⟨h15, wok⟩
      · refine ⟨_, rfl, _, _, rfl, rfl, false, bF (by omega), ?_⟩
        refine ⟨_, _, us, row, room, rfl, k3, D3, eR3, lr, ht, by omega, ?_, hc⟩
        intro _
        cases row with
        | nil =>
          have : trk ([] : List Cel) ([] : List Cel).length = 0 := rfl
          omega
        | cons c r => rw [List.length_cons]; omega
    · rintro σ1 H5 ⟨x4, x5, us, row, room, rfl, k5, D5, eR5, lr, ht, hl, hp, hc⟩
      refine ⟨_, rfl, R, us, rfl, .inl ⟨SqL.of eR5, fun t nt => ?_⟩⟩
      exact q _ _ row (k5.new nt) (D5.new nt) ⟨t, us, rfl, upd_same, lr.mono fun _ _ z => z.kt (kt_new nt)⟩ ⟨hp (by omega), by omega, hc, by omega⟩
def TbV (H : Hp) (v : V) (Y : Tbl) : Prop := ∃ t us, v = .ref t ∧ H t = some (.tup us) ∧ LV (RowV H) us Y
theorem TbV.kt {H H' : Hp} {v : V} {Y : Tbl} (h : TbV H v Y) (k : ∀ a xs, H a = some (.tup xs) → H' a = some (.tup xs)) : TbV H' v Y := by
  obtain ⟨t, us, e, h1, h2⟩ := h
  exact ⟨t, us, e, k _ _ h1, h2.mono fun _ _ z => z.kt k⟩
def spTblD : Sp := fun vs H Q _ => ∃ (d l : Addr), vs = [.ref d] ∧ DI d l H ∧ ∀ H' v Y, Kp d H H' → DI d l H' → TbV H' v Y → TbOk Y → Q v H'
theorem ok_table_drawn (T : Txt K mg) : FnOk P w K mg base CX0 6 T.a_law_rows_drawn T.d_law_rows_drawn ["_law_d"] spTblD := by
  have G_law_draw : FnOk P w K mg base CX0 1 T.a_law_draw T.d_law_draw ["_law_d", "_law_many"] spDraw := ok_draw T
  have G_law_rare : FnOk P w K mg base CX0 2 T.a_law_rare T.d_law_rare ["_law_d", "_law_many"] spRare := ok_rare T
  have G_law_row_drawn : FnOk P w K mg base CX0 5 T.a_law_row_drawn T.d_law_row_drawn ["_law_d", "_law_many"] spRowD := ok_row_drawn T
  refine T.D_law_rows_drawn.F.ok sc_law_rows_drawn (fun vs H Q E h => ?_) (fun cdv A outer s H vs Q E hr h => ?_)
  · obtain ⟨d, l, rfl, _⟩ := h
    rfl
  · obtain ⟨d, l, rfl, hD, q⟩ := h
    refine ⟨_, (pss_cons (ps_set (i := 1) sc_law_rows_drawn.nd rfl (.inl rfl) (pe_call G_law_rare (hr.mono (by decide)) (by rfl) T.D_law_rare.G T.D_law_rare.F.kp T.D_law_rare.B .nil pass0 (pa_cons (pv 0) (pa_cons pe_int pa_nil))))
      (pss_cons (ps_set (i := 2) sc_law_rows_drawn.nd rfl (.inl rfl) (pe_lst pa_nil))
      (pss_cons (ps_for PassesOwn.never rfl (pi_range1 (by rfl) T.n_range (pa_cons (pe_ifExp (pt_val (pv 1)) pe_int (pe_op op_add pe_int (pe_call G_law_draw (hr.mono (by decide)) (by rfl) T.D_law_draw.G T.D_law_draw.F.kp T.D_law_draw.B .nil pass0 (pa_cons (pv 0) (pa_cons pe_int pa_nil))))) pa_nil)) (pg_name (i := 3) sc_law_rows_drawn.nd rfl (.inl rfl)) (pss_one (ps_expr (pe_bm PySem.F.plainAttrs_list PySem.F.slot_list_append PySem.F.type_list_append mt_append (pv 2) (pa_cons (pe_call G_law_row_drawn (hr.mono (by decide)) (by rfl) T.D_law_row_drawn.G T.D_law_row_drawn.F.kp T.D_law_row_drawn.B .nil pass0 (pa_cons (pv 0) (pa_cons (pe_ifExp (pt_val (pv 1)) pe_int pe_int) pa_nil))) pa_nil)))))
      (pss_one (ps_ret (pe_callTy call_tuple_of (by rfl) T.n_tuple (by decide +kernel) (pa_cons (pv 2) pa_nil))))))), ?_⟩
    refine ⟨_, rfl, d, l, 20, rfl, hD, by decide, fun H0 b k0 D0 => ?_⟩
    refine ⟨by show 0 ≤ sizeLine; decide, fun R nR => ?_⟩
    have nRd := D0.nd nR
    have nRH := none_kp k0 nRd.1 nR
    have k1 := k0.new (o := .lst []) nR
    have D1 := D0.new (o := .lst []) nR
    have eR : upd H0 R (.lst []) R = some (.lst []) := upd_same
    generalize upd H0 R (.lst []) = H1 at k1 D1 eR
    dsimp only [gNameA, tSeqA]
    refine tfor_if (fun x H' => ∃ m : Nat, x = nV m ∧ 1 ≤ m ∧ m ≤ 12 ∧ Kp d H H' ∧ DI d l H' ∧ H' R = some (.lst [])) (fun Q k => ?_) ?_
    · refine ⟨_, rfl, b, rfl, ?_⟩
      cases b with
      | true => exact k _ _ ⟨6, rfl, by decide, by decide, k1, D1, eR⟩
      | false =>
        refine ⟨_, rfl, d, l, 3, rfl, D1, by decide, fun H2 r k2 D2 a1 a2 => ?_⟩
        obtain ⟨g, rfl, hg⟩ := draw_nt (by decide) a1 a2
        exact ⟨_, _, rfl, rfl, k _ _ ⟨1 + g, congrArg V.int (by omega), by omega, by omega, k1.trans k2, D2, k2 _ _ nRd.1 eR⟩⟩
    rintro x H2 ⟨m, rfl, m1, m12, k2, D2, eR2⟩
    refine ⟨(m : Int), rfl, by omega, by omega, ?_⟩
    rw [Int.toNat_natCast]
    refine for_it walk_range (fun i σ' H' => ∃ (x3 : Option V) (us : List V) (Y : Tbl), σ' = [some (.ref d), some (.bl b), some (.ref R), x3] ∧ Kp d H H' ∧ DI d l H' ∧ H' R = some (.lst us) ∧ LV (RowV H') us Y ∧ Y.length = i ∧ ∀ row ∈ Y, RwOk row) ⟨_, [], [], rfl, k2, D2, eR2, LV.nil, rfl, fun _ h => nomatch h⟩ (fun _ _ _ _ _ => trivial) ?_ ?_
    · rintro i x σ' Ha H3 hi ⟨x3, us, Y, rfl, k3, D3, eR3, lv, hl, ok⟩ ⟨rfl, hx⟩
      have lus := lv.1
      refine ⟨.ref R, rfl, .inl ⟨rfl, _, .inl (.inl eR3)⟩, ?_⟩
      refine ⟨_, rfl, ?_⟩
      refine tif_k (fun x H' => H' = H3 ∧ ∃ m : Nat, x = nV m ∧ 1 ≤ m ∧ m ≤ 8) (fun k => ?_) ?_
      · refine ⟨_, rfl, b, rfl, ?_⟩
        cases b with
        | true => exact k _ _ ⟨rfl, 8, rfl, by decide, by decide⟩
        | false => exact k _ _ ⟨rfl, 4, rfl, by decide, by decide⟩
      rintro x _ ⟨rfl, n, rfl, n1, n8⟩
      refine ⟨d, l, n, rfl, D3, n1, n8, fun H4 v row k4 D4 rv rok => ?_⟩
      have eR4 := k4 _ _ nRd.1 eR3
      have lv4 : LV (RowV H4) us Y := lv.mono fun _ _ z => z.kt (kpTup D3 k4)
      refine ⟨R, us, _, rfl, rfl, eR4, szN (by omega), ?_⟩
      refine ⟨_, us ++ [v], Y ++ [row], rfl, (k3.trans k4).mut nRH, D4.at nRd.1 nRd.2, upd_same, (LV.snoc lv4 rv).mono fun _ _ z => z.kt (kt_mut eR4), by rw [List.length_append, hl]; rfl, fun r hr => ?_⟩
      rcases List.mem_append.mp hr with hr | hr
      · exact ok r hr
      · rw [List.mem_singleton.mp hr]; exact rok
    · rintro σ1 H5 ⟨x3, us, Y, rfl, k5, D5, eR5, lv, hl, ok⟩
      refine ⟨_, rfl, R, us, rfl, .inl ⟨SqL.of eR5, fun t nt => ?_⟩⟩
      exact q _ _ Y (k5.new nt) (D5.new nt) ⟨t, us, rfl, upd_same, lv.mono fun _ _ z => z.kt (kt_new nt)⟩ ⟨by omega, by omega, ok⟩
end
end Vf

set_option Elab.async false
set_option linter.all false
set_option maxRecDepth 100000
set_option maxHeartbeats 4000000
namespace Vf
open PySem PySem.Spec PyProof.Rows L2 TL
/-! ### the law's own ends -/
def ptW (S : Sty) (z : List Nat) : List Nat := pieceN S z 0 z.length
theorem pcN_all (S : Sty) (z : List Nat) : pcN S z 0 0 = ptW S z := by
  unfold pcN ptW
  rw [if_pos rfl, eA_zero, eA_end]
theorem wdS_sg (S : Sty) (y : Wrd) : (wdS S y).1 = ptW S y.1 := by
  show (pieceS S y.1 y.2 0 0).1 = _
  rw [piece_sg, pcN_all]
theorem csN_sum (S : Sty) (ws : List Wrd) : ∀ n, n ≤ ws.length → ((csN S ws n).flatMap (fun s : Stp => s.1)).length = ((ws.take n).map fun y => (ptW S y.1).length).sum + (n - 1)
  | 0, _ => rfl
  | n + 1, hn => by
    have ih := csN_sum S ws n (by omega)
    show (((csN S ws n ++ if n = 0 then [] else [blankS 1]) ++ [wdS S (wrdAt ws n)]).flatMap (fun s : Stp => s.1)).length = _
    rw [List.flatMap_append, List.flatMap_append, List.length_append, List.length_append, ih, List.take_succ, wrdAt_at (show n < ws.length by omega), List.map_append, List.sum_append]
    have e1 : (([wdS S (wrdAt ws n)] : List Stp).flatMap (fun s : Stp => s.1)).length = (ptW S (wrdAt ws n).1).length := by
      rw [List.flatMap_cons, List.flatMap_nil, List.append_nil, wdS_sg]
    rw [e1]
    have e2 : ((some (wrdAt ws n)).toList.map fun y : Wrd => (ptW S y.1).length).sum = (ptW S (wrdAt ws n).1).length := rfl
    rw [e2]
    by_cases c : n = 0
    · rw [if_pos c]
      show _ + (n - 1) + 0 + _ = _
      omega
    · rw [if_neg c]
      show _ + (n - 1) + 1 + _ = _
      omega
theorem cell_len (S : Sty) (ws : List Wrd) : (cellS S ws).1.length = (ws.map fun y => (ptW S y.1).length).sum + (ws.length - 1) := by
  have h := csN_sum S ws ws.length (Nat.le_refl _)
  rw [List.take_length] at h
  exact h
theorem sum_ints : ∀ xs : List Nat, (xs.map fun x : Nat => (x : Int)).sum = ((xs.sum : Nat) : Int)
  | [] => rfl
  | x :: xs => by
    rw [List.map_cons, List.sum_cons, List.sum_cons, sum_ints xs]; omega
theorem nV_ints (l : List Nat) : l.map nV = (l.map (fun x : Nat => (x : Int))).map V.int := by rw [List.map_map]; rfl
def LArcV (H : Hp) (x : V) (r : Arc) : Prop := ∃ b, x = .ref b ∧ H b = some (.tup [nV r.1, nV (r.1 + r.2.1), nV r.2.2])
theorem LArcV.kt {H H' : Hp} {x : V} {r : Arc} (h : LArcV H x r) (k : ∀ a xs, H a = some (.tup xs) → H' a = some (.tup xs)) : LArcV H' x r := by
  obtain ⟨b, e, h1⟩ := h
  exact ⟨b, e, k _ _ h1⟩
def trN (Y : Tbl) (n : Nat) : Nat := (mx ((Y.take n).map fun row => trk row row.length)).getD 0
theorem trN_succ {Y : Tbl} {n : Nat} {row : List Cel} (h : Y[n]? = some row) : trN Y (n + 1) = max (trN Y n) (trk row row.length) := by
  unfold trN
  rw [List.take_succ, h, List.map_append]
  show (mx (_ ++ [trk row row.length])).getD 0 = _
  rw [mx_snoc]; rfl
theorem trN_all (Y : Tbl) : trN Y Y.length = ntr Y := by
  unfold trN ntr
  rw [List.take_length]
theorem max_int (i j : Nat) : (if (j : Int) > (i : Int) then (j : Int) else (i : Int)) = ((max i j : Nat) : Int) := by
  split <;> omega
def lwN (cs : List Arc) (n j : Nat) : Nat := (mx (lowL cs n (cs.take j))).getD 0
theorem lwN_zero (cs : List Arc) (n : Nat) : lwN cs n 0 = bN cs (n - 1) + 1 := by
  unfold lwN lowL
  rw [List.take_zero]
  show max (bN cs (n - 1) + 1) 0 = _
  omega
theorem lwN_no {cs : List Arc} {n j : Nat} {r : Arc} (h : cs[j]? = some r) (hn : r.1 + r.2.1 ≠ n) : lwN cs n (j + 1) = lwN cs n j := by
  unfold lwN lowL
  rw [List.take_succ, h, List.filterMap_append]
  have e : (some r).toList.filterMap (lowR cs n) = [] := by
    show ([r] : List Arc).filterMap (lowR cs n) = []
    rw [List.filterMap_cons_none (show lowR cs n r = none from if_neg hn)]; rfl
  rw [e, List.append_nil]
theorem lwN_yes {cs : List Arc} {n j : Nat} {r : Arc} (h : cs[j]? = some r) (hn : r.1 + r.2.1 = n) : lwN cs n (j + 1) = max (lwN cs n j) (bN cs r.1 + r.2.2 + 1) := by
  unfold lwN lowL
  rw [List.take_succ, h, List.filterMap_append]
  have e : (some r).toList.filterMap (lowR cs n) = [bN cs r.1 + r.2.2 + 1] := by
    show ([r] : List Arc).filterMap (lowR cs n) = _
    rw [List.filterMap_cons_some (show lowR cs n r = some _ from if_pos hn)]; rfl
  rw [e, ← List.cons_append, mx_snoc]; rfl
theorem bl_snoc (cs : List Arc) (n : Nat) : bl cs (n + 1) = bl cs n ++ [bN cs (n + 1)] := by
  have e : bN cs (n + 1) = (mx ((List.range (n + 1)).filterMap (cand cs (bl cs n) (n + 1)))).getD 0 := by
    show (bl cs n ++ [_]).getD (n + 1) 0 = _
    rw [getD_last (by rw [bl_len])]
  rw [e]; rfl
theorem bl_ix {cs : List Arc} {i n : Nat} (h : i ≤ n) : ((bl cs n).map nV)[i]? = some (nV (bN cs i)) := by
  rw [List.getElem?_map, ← bl_get h, List.getD_eq_getElem?_getD, List.getElem?_eq_getElem (by rw [bl_len]; omega)]; rfl
end Vf

set_option Elab.async false
set_option linter.all false
set_option maxRecDepth 100000
set_option maxHeartbeats 4000000
namespace Vf
open PySem PySem.Spec PyProof.Rows L2 TL
/-! ### a row set sign by sign -/
def padN (M : Nat) (A : List Nat) : List Nat := A ++ List.replicate (M - A.length) 32
theorem pad_len {M : Nat} {A : List Nat} (h : A.length ≤ M) : (padN M A).length = M := by
  unfold padN
  rw [List.length_append, List.length_replicate]; omega
theorem pad_blank {M k : Nat} {A : List Nat} (h : A.length + k ≤ M) : padN M (A ++ List.replicate k 32) = padN M A := by
  unfold padN
  rw [List.length_append, List.length_replicate, List.append_assoc, List.replicate_append_replicate]
  congr 2
  omega
theorem pad_set {M c : Nat} {A : List Nat} (h : A.length < M) : (padN M A).set A.length c = padN M (A ++ [c]) := by
  unfold padN
  rw [List.set_append_right _ _ (Nat.le_refl _), Nat.sub_self]
  obtain ⟨k, hk⟩ : ∃ k, M - A.length = k + 1 := ⟨M - A.length - 1, by omega⟩
  rw [hk, List.replicate_succ, List.set_cons_zero, List.length_append, List.append_assoc]
  show A ++ c :: List.replicate k 32 = A ++ ([c] ++ List.replicate (M - (A.length + 1)) 32)
  rw [show M - (A.length + 1) = k by omega]; rfl
def gpN (t : Nat) : Nat := if t = 0 then 0 else 1
def wSg (S : Sty) (ws : List Wrd) (t : Nat) : List Nat := (csN S ws t).flatMap (fun s : Stp => s.1)
def wCv (S : Sty) (ws : List Wrd) (t : Nat) : List Nat := (csN S ws t).flatMap (fun s : Stp => s.2.1)
theorem gp_blank (t : Nat) : ((if t = 0 then [] else [blankS 1]) : List Stp).flatMap (fun s : Stp => s.1) = List.replicate (gpN t) 32 ∧ ((if t = 0 then [] else [blankS 1]) : List Stp).flatMap (fun s : Stp => s.2.1) = List.replicate (gpN t) 32 := by
  unfold gpN
  by_cases c : t = 0
  · rw [if_pos c, if_pos c]; exact ⟨rfl, rfl⟩
  · rw [if_neg c, if_neg c]; exact ⟨rfl, rfl⟩
theorem wSg_succ (S : Sty) (ws : List Wrd) (t : Nat) : wSg S ws (t + 1) = wSg S ws t ++ List.replicate (gpN t) 32 ++ ptW S (wrdAt ws t).1 := by
  show ((csN S ws t ++ if t = 0 then [] else [blankS 1]) ++ [wdS S (wrdAt ws t)]).flatMap (fun s : Stp => s.1) = _
  rw [List.flatMap_append, List.flatMap_append, (gp_blank t).1, List.flatMap_cons, List.flatMap_nil, List.append_nil, wdS_sg]; rfl
def kdC (q : Nat) : Nat := if q = 0 then 32 else 35
theorem wdS_cv (S : Sty) (y : Wrd) : (wdS S y).2.1 = List.replicate (ptW S y.1).length (kdC y.2) := by
  show (pieceS S y.1 y.2 0 0).2.1 = _
  unfold pieceS kdC
  by_cases c : y.2 = 0
  · rw [if_pos c, if_pos c]
    show List.replicate (pcN S y.1 0 0).length 32 = _
    rw [pcN_all]
  · rw [if_neg c, if_neg c]
    show List.replicate (pcN S y.1 0 0).length 35 = _
    rw [pcN_all]
theorem wCv_succ (S : Sty) (ws : List Wrd) (t : Nat) : wCv S ws (t + 1) = wCv S ws t ++ List.replicate (gpN t) 32 ++ List.replicate (ptW S (wrdAt ws t).1).length (kdC (wrdAt ws t).2) := by
  show ((csN S ws t ++ if t = 0 then [] else [blankS 1]) ++ [wdS S (wrdAt ws t)]).flatMap (fun s : Stp => s.2.1) = _
  rw [List.flatMap_append, List.flatMap_append, (gp_blank t).2, List.flatMap_cons, List.flatMap_nil, List.append_nil, wdS_cv]; rfl
theorem wCv_len (S : Sty) (ws : List Wrd) : ∀ t, (wCv S ws t).length = (wSg S ws t).length
  | 0 => rfl
  | t + 1 => by
    rw [wSg_succ, wCv_succ, List.length_append, List.length_append, List.length_append, List.length_append, wCv_len S ws t, List.length_replicate, List.length_replicate]
theorem wSg_mono (S : Sty) (ws : List Wrd) (t : Nat) : ∀ d, (wSg S ws t).length ≤ (wSg S ws (t + d)).length
  | 0 => Nat.le_refl _
  | d + 1 => by
    have := wSg_mono S ws t d
    show _ ≤ (wSg S ws (t + d + 1)).length
    rw [wSg_succ, List.length_append, List.length_append]
    omega
def rSg (S : Sty) (bs : List Nat) (row : List Cel) (n : Nat) : List Nat := (rsN S bs row n).flatMap (fun s : Stp => s.1)
def rCv (S : Sty) (bs : List Nat) (row : List Cel) (n : Nat) : List Nat := (rsN S bs row n).flatMap (fun s : Stp => s.2.1)
theorem rSg_succ (S : Sty) (bs : List Nat) (row : List Cel) (n : Nat) : rSg S bs row (n + 1) = rSg S bs row n ++ List.replicate (bs.getD (trk row n) 0 - atN S bs row n) 32 ++ wSg S (celAt row n).2 (celAt row n).2.length := by
  show (rsN S bs row n ++ [_, _]).flatMap (fun s : Stp => s.1) = _
  rw [List.flatMap_append, List.flatMap_cons, List.flatMap_cons, List.flatMap_nil, List.append_nil, ← List.append_assoc]; rfl
theorem rCv_succ (S : Sty) (bs : List Nat) (row : List Cel) (n : Nat) : rCv S bs row (n + 1) = rCv S bs row n ++ List.replicate (bs.getD (trk row n) 0 - atN S bs row n) 32 ++ wCv S (celAt row n).2 (celAt row n).2.length := by
  show (rsN S bs row n ++ [_, _]).flatMap (fun s : Stp => s.2.1) = _
  rw [List.flatMap_append, List.flatMap_cons, List.flatMap_cons, List.flatMap_nil, List.append_nil, ← List.append_assoc]
  have e : (blankS (bs.getD (trk row n) 0 - atN S bs row n)).2.1 = List.replicate (bs.getD (trk row n) 0 - atN S bs row n) 32 := by
    show List.replicate (List.replicate _ 32).length 32 = _
    rw [List.length_replicate]
  rw [e]; rfl
theorem rSg_len {S : Sty} {bs : List Nat} {row : List Cel} {M : Nat} (b : BsOk S bs row M) : ∀ n, n ≤ row.length → (rSg S bs row n).length = atN S bs row n ∧ (rCv S bs row n).length = atN S bs row n
  | 0, _ => ⟨rfl, rfl⟩
  | n + 1, h => by
    have ⟨h1, h2⟩ := rSg_len b n (by omega)
    have h3 := b.up n (by omega)
    have e : (cellS S (celAt row n).2).1.length = (wSg S (celAt row n).2 (celAt row n).2.length).length := rfl
    rw [rSg_succ, rCv_succ, List.length_append, List.length_append, List.length_append, List.length_append, List.length_replicate, wCv_len, h1, h2]
    show _ = bs.getD (trk row n) 0 + (cellS S (celAt row n).2).1.length ∧ _ = bs.getD (trk row n) 0 + (cellS S (celAt row n).2).1.length
    rw [e]
    omega
theorem rowLn_pad (S : Sty) (bs : List Nat) (row : List Cel) (M : Nat) (h : (rCv S bs row row.length).length = (rSg S bs row row.length).length) : rowLn S bs row M = (padN M (rSg S bs row row.length), padN M (rCv S bs row row.length)) := by
  unfold padN
  rw [h]; rfl
theorem sg_text {M : Nat} {A : List Nat} : ((padN M A).map sgn) = ((padN M A).map fun c => [c]).map sV := by
  rw [List.map_map]; rfl
theorem flat_1s : ∀ l : List Nat, (l.map fun c => [c]).flatten = l
  | [] => rfl
  | c :: l => by
    rw [List.map_cons, List.flatten_cons, flat_1s l]; rfl
theorem rep_sp : ∀ M : Nat, (List.replicate M [V.str (" " : Str)]).flatten = (List.replicate M 32).map sgn
  | 0 => rfl
  | M + 1 => by
    rw [List.replicate_succ, List.replicate_succ, List.flatten_cons, List.map_cons, rep_sp M]
    exact congrArg (fun z => V.str z :: (List.replicate M 32).map sgn) blk_mk
theorem rep_pad (M : Nat) : (List.replicate ((M : Int)).toNat [V.str (" " : Str)]).flatten = (padN M []).map sgn := by
  rw [Int.toNat_natCast, rep_sp]; rfl
theorem pad_setV {M c : Nat} {A : List Nat} (h : A.length < M) : ((padN M A).map sgn).set A.length (sgn c) = (padN M (A ++ [c])).map sgn := by
  rw [← pad_set h, List.map_set]
end Vf

set_option Elab.async false
set_option linter.all false
set_option maxRecDepth 100000
set_option maxHeartbeats 4000000
namespace Vf
open PySem PySem.Spec PyProof.Rows L2 TL
/-! ### a cell's signs with gaps -/
theorem joinL_snoc (s : List Nat) : ∀ (l : List (List Nat)) (x : List Nat), l ≠ [] → joinL s (l ++ [x]) = joinL s l ++ (s ++ x)
  | [], _, h => absurd rfl h
  | [p], x, _ => rfl
  | p :: q :: r, x, _ => by
    have ih := joinL_snoc s (q :: r) x (by simp)
    show p ++ (s ++ joinL s (q :: r ++ [x])) = p ++ (s ++ joinL s (q :: r)) ++ (s ++ x)
    rw [ih]
    simp only [List.append_assoc]
theorem join_sp (zss : List (List Nat)) : Txt.join (" " : Str) (zss.map mkS) = mkS (joinL [32] zss) := by
  have h : tl (Txt.join (" " : Str) (zss.map mkS)) = joinL [32] zss := by
    rw [join_eq, tl_join, show (zss.map mkS).map tl = zss from (by rw [List.map_map]; exact List.map_id'' (fun _ => rfl) zss), blk_mk]; rfl
  rw [← h]; rfl
def psW (S : Sty) (ws : List Wrd) (n : Nat) : List (List Nat) := (List.range n).map fun t => ptW S (wrdAt ws t).1
def cvW (S : Sty) (ws : List Wrd) (n : Nat) : List (List Nat) := (List.range n).map fun t => List.replicate (ptW S (wrdAt ws t).1).length (kdC (wrdAt ws t).2)
theorem psW_succ (S : Sty) (ws : List Wrd) (n : Nat) : psW S ws (n + 1) = psW S ws n ++ [ptW S (wrdAt ws n).1] := by
  unfold psW
  rw [List.range_succ, List.map_append]; rfl
theorem cvW_succ (S : Sty) (ws : List Wrd) (n : Nat) : cvW S ws (n + 1) = cvW S ws n ++ [List.replicate (ptW S (wrdAt ws n).1).length (kdC (wrdAt ws n).2)] := by
  unfold cvW
  rw [List.range_succ, List.map_append]; rfl
theorem psW_len (S : Sty) (ws : List Wrd) (n : Nat) : (psW S ws n).length = n ∧ (cvW S ws n).length = n := by
  unfold psW cvW
  rw [List.length_map, List.length_map, List.length_range]; exact ⟨rfl, rfl⟩
theorem join_wSg (S : Sty) (ws : List Wrd) : ∀ n, joinL [32] (psW S ws n) = wSg S ws n
  | 0 => rfl
  | n + 1 => by
    rw [psW_succ, wSg_succ]
    by_cases c : n = 0
    · subst c
      show ptW S (wrdAt ws 0).1 = [] ++ [] ++ ptW S (wrdAt ws 0).1
      rw [List.append_nil, List.nil_append]
    · have hne : psW S ws n ≠ [] := fun z => by
        have := (psW_len S ws n).1
        rw [z] at this
        exact c this.symm
      rw [joinL_snoc _ _ _ hne, join_wSg S ws n]
      unfold gpN
      rw [if_neg c, List.append_assoc]; rfl
theorem join_wCv (S : Sty) (ws : List Wrd) : ∀ n, joinL [32] (cvW S ws n) = wCv S ws n
  | 0 => rfl
  | n + 1 => by
    rw [cvW_succ, wCv_succ]
    by_cases c : n = 0
    · subst c
      show List.replicate _ _ = [] ++ [] ++ List.replicate _ _
      rw [List.append_nil, List.nil_append]
    · have hne : cvW S ws n ≠ [] := fun z => by
        have := (psW_len S ws n).2
        rw [z] at this
        exact c this.symm
      rw [joinL_snoc _ _ _ hne, join_wCv S ws n]
      unfold gpN
      rw [if_neg c, List.append_assoc]; rfl
theorem psW_small {S : Sty} (st : StyOk S) {ws : List Wrd} (ok : WsOk ws) : (∀ z ∈ psW S ws ws.length, z.length ≤ 100) ∧ ∀ z ∈ cvW S ws ws.length, z.length ≤ 100 := by
  have key : ∀ t, t < ws.length → (ptW S (wrdAt ws t).1).length ≤ 100 := fun t ht => pieceW_small st _ _ (ok.at ht).1 (Nat.le_refl _)
  refine ⟨fun z hz => ?_, fun z hz => ?_⟩
  · obtain ⟨t, ht, rfl⟩ := List.mem_map.mp hz
    exact key t (List.mem_range.mp ht)
  · obtain ⟨t, ht, rfl⟩ := List.mem_map.mp hz
    rw [List.length_replicate]
    exact key t (List.mem_range.mp ht)
section
variable {P : Program} {w : World} {K : PySem.W.Frag} {mg : Str → Option Value} {base : Heap}
def spCellSg : Sp := fun vs H Q _ => ∃ (v : V) (wt : Addr) (us : List V) (S : Sty) (ws : List Wrd), vs = [v, .ref wt] ∧ StyV H v S ∧ StyOk S ∧ H wt = some (.tup us) ∧ LV (WkV H) us ws ∧ WsOk ws ∧
  ∀ H' p, Same H H' → H' p = some (.tup [sV (wSg S ws ws.length), sV (wCv S ws ws.length)]) → Q (.ref p) H'
theorem ok_cell_signs (T : Txt K mg) : FnOk P w K mg base CX0 2 T.a_law_cell_signs T.d_law_cell_signs ["_law_style_here", "_law_words"] spCellSg := by
  have G_law_piece : FnOk P w K mg base CX0 1 T.a_law_piece T.d_law_piece ["_law_style_here", "_law_word_here", "_law_first", "_law_behind"] spLawPiece := ok_law_piece T
  refine T.D_law_cell_signs.F.ok sc_law_cell_signs (fun vs H Q E h => ?_) (fun cdv A outer s H vs Q E hr h => ?_)
  · obtain ⟨_, _, _, _, _, rfl, _⟩ := h
    rfl
  · obtain ⟨v, wt, us, S, ws, rfl, sv, st, et, lw, ok, q⟩ := h
    have l7 := ok.ln
    have lus := lw.1
    refine ⟨_, (pss_cons (ps_set (i := 2) sc_law_cell_signs.nd rfl (.inl rfl) (pe_lst pa_nil))
      (pss_cons (ps_set (i := 3) sc_law_cell_signs.nd rfl (.inl rfl) (pe_lst pa_nil))
      (pss_cons (ps_for PassesOwn.never rfl (pi_tup (pv 1)) (pg_tup (by rfl) (pgs_cons (pg_name (i := 4) sc_law_cell_signs.nd rfl (.inl rfl)) (pgs_cons (pg_name (i := 5) sc_law_cell_signs.nd rfl (.inl rfl)) pgs_nil))) (pss_cons (ps_set (i := 6) sc_law_cell_signs.nd rfl (.inl rfl) (pe_call G_law_piece (hr.mono (by decide)) (by rfl) T.D_law_piece.G T.D_law_piece.F.kp T.D_law_piece.B .nil pass0 (pa_cons (pv 0) (pa_cons (pv 4) (pa_cons pe_int (pa_cons (pe_callB call_len_str (by rfl) T.n_len PySem.boot_len (pa_cons (pv 4) pa_nil)) pa_nil))))))
      (pss_cons (ps_expr (pe_bm PySem.F.plainAttrs_list PySem.F.slot_list_append PySem.F.type_list_append mt_append (pv 2) (pa_cons (pv 6) pa_nil)))
      (pss_one (ps_expr (pe_bm PySem.F.plainAttrs_list PySem.F.slot_list_append PySem.F.type_list_append mt_append (pv 3) (pa_cons (pe_op op_mul_str (pe_ifExp (pt_cmpR op_eq (pv 5) pe_int (nomark _)) pe_str pe_str) (pe_callB call_len_str (by rfl) T.n_len PySem.boot_len (pa_cons (pv 6) pa_nil))) pa_nil)))))))
      (pss_one (ps_ret (pe_tup (pa_cons (pe_join pe_str (pv 2)) (pa_cons (pe_join pe_str (pv 3)) pa_nil)))))))), ?_⟩
    refine ⟨by show 0 ≤ sizeLine; decide, fun D nD => ?_⟩
    have k1 := same_upd (o := .lst []) (Same.refl H) nD
    have eD : upd H D (.lst []) D = some (.lst []) := upd_same
    generalize upd H D (.lst []) = H1 at k1 eD
    refine ⟨by show 0 ≤ sizeLine; decide, fun C nC => ?_⟩
    have nCH := none_same k1 nC
    have nDC : D ≠ C := ne_of_none eD nC
    have k2 := same_upd (o := .lst []) k1 nC
    have eC : upd H1 C (.lst []) C = some (.lst []) := upd_same
    have eD2 : upd H1 C (.lst []) D = some (.lst []) := by rw [upd_ne nDC]; exact eD
    generalize upd H1 C (.lst []) = H2 at k2 eC eD2
    refine ⟨_, rfl, wt, rfl, ⟨_, SqT.of (k2 _ _ et)⟩, ?_⟩
    refine for_it (walk_tup (K := K) (a := wt) (xs := us)) (fun n σ' H' => ∃ (x4 x5 x6 : Option V), σ' = [some v, some (.ref wt), some (.ref D), some (.ref C), x4, x5, x6] ∧ Same H H' ∧ H' D = some (.lst ((psW S ws n).map sV)) ∧ H' C = some (.lst ((cvW S ws n).map sV))) ⟨_, _, _, rfl, k2, eD2, eC⟩ ?_ ?_ ?_
    · rintro i σ1 H' _ ⟨_, _, _, _, k, _⟩
      exact SqT.of (k _ _ et)
    · rintro n x σ1 Ha H3 hn ⟨x4, x5, x6, rfl, k3, eD3, eC3⟩ ⟨rfl, hx⟩
      obtain ⟨yy, ey, p, rfl, ep⟩ := lw.at hx
      have hn2 : n < ws.length := by omega
      have ey := Option.some.inj ((wrdAt_at hn2).symm.trans ey)
      subst ey
      have ⟨wd, h0, hq⟩ := ok.at hn2
      have w16 := wd.len
      have ps : (ptW S (wrdAt ws n).1).length ≤ 100 := pieceW_small st _ _ wd (Nat.le_refl _)
      have hb1 : (mkS (wrdAt ws n).1).length ≤ sizeLine := by rw [mkS_len]; exact big_ok (by omega)
      have hb2 : (mkS (ptW S (wrdAt ws n).1)).length ≤ sizeLine := by rw [mkS_len]; exact big_ok (by omega)
      have ⟨pl1, pl2⟩ := psW_len S ws n
      have e1 := psW_succ S ws n
      have e2 := cvW_succ S ws n
      generalize wrdAt ws n = yy at ep wd h0 hq w16 ps hb1 hb2 e1 e2
      refine ⟨p, _, rfl, SqT.of (k3 _ _ ep), rfl, _, _, rfl, _, _, rfl, rfl, ?_⟩
      refine ⟨_, rfl, _, rfl, _, rfl, _, rfl, hb1, v, S, yy.1, 0, yy.1.length, congrArg (fun z : Nat => [v, sV yy.1, V.int 0, V.int (z : Int)]) (mkS_len yy.1), sv.mono (same_tup k3), st, wd, Nat.zero_le _, Nat.le_refl _, ?_⟩
      refine ⟨.ref D, rfl, .inl ⟨rfl, _, .inl (.inl eD3)⟩, ?_⟩
      refine ⟨_, rfl, D, _, _, rfl, rfl, eD3, by rw [List.length_map, pl1]; exact szN (by omega), ?_⟩
      have k4 := same_mut (o := .lst ((psW S ws n).map sV ++ [sV (ptW S yy.1)])) k3 nD
      have eD4 : upd H3 D (.lst ((psW S ws n).map sV ++ [sV (ptW S yy.1)])) D = some (.lst ((psW S ws n).map sV ++ [sV (ptW S yy.1)])) := upd_same
      have eC4 : upd H3 D (.lst ((psW S ws n).map sV ++ [sV (ptW S yy.1)])) C = some (.lst ((cvW S ws n).map sV)) := by rw [upd_ne nDC.symm]; exact eC3
      have eg : (.lst ((psW S ws n).map sV ++ [sV (ptW S yy.1)]) : HO) = .lst ((psW S ws (n + 1)).map sV) := by rw [e1, List.map_append]; rfl
      rw [eg] at k4 eD4 eC4
      have eg2 : upd H3 D (.lst ((psW S ws n).map sV ++ [sV (pieceN S yy.1 0 yy.1.length)])) = upd H3 D (.lst ((psW S ws (n + 1)).map sV)) := congrArg (upd H3 D) eg
      rw [eg2]
      generalize upd H3 D (.lst ((psW S ws (n + 1)).map sV)) = H4 at k4 eD4 eC4
      clear eg eg2
      refine ⟨.ref C, rfl, .inl ⟨rfl, _, .inl (.inl eC4)⟩, ?_⟩
      dsimp only [tCons, tOp]
      refine if_one (p := nV yy.2 = nV 1) (x := sgn (kdC yy.2)) (fun R h => ⟨_, rfl, rfl, _, rfl, h⟩) (fun c R h => ?_) (fun c R h => ?_) ?_
      · have c := nV_inj c
        rw [c] at h
        exact h
      · have c : yy.2 = 0 := by
          have : yy.2 ≠ 1 := fun e => c (congrArg nV e)
          omega
        rw [c] at h
        exact h
      refine ⟨_, rfl, _, rfl, hb2, mkS [kdC yy.2], (((mkS (ptW S yy.1)).length : Nat) : Int), rfl, rfl, mul_ok1 (by rw [mkS_len]; omega) (by rw [mkS_len]; show 1 ≤ 100; decide), ?_⟩
      rw [mul_sign, mkS_len]
      refine ⟨C, _, _, rfl, rfl, eC4, by rw [List.length_map, pl2]; exact szN (by omega), ?_⟩
      refine ⟨_, _, _, rfl, same_mut k4 nCH, by rw [upd_ne nDC]; exact eD4, ?_⟩
      rw [upd_same, e2, List.map_append]; rfl
    · rintro σ1 H3 ⟨x4, x5, x6, rfl, k3, eD3, eC3⟩
      rw [lus] at eD3 eC3
      have ⟨s1, s2⟩ := psW_small st ok
      have ⟨pl1, pl2⟩ := psW_len S ws ws.length
      have j1 := join_wSg S ws ws.length
      have j2 := join_wCv S ws ws.length
      have f1 := flat_len s1
      have f2 := flat_len s2
      generalize psW S ws ws.length = l1 at eD3 s1 pl1 j1 f1
      generalize cvW S ws ws.length = l2 at eC3 s2 pl2 j2 f2
      have b1 : ((l1.map mkS).map fun x : Str => x.length).sum + (l1.map mkS).length * ((" " : Str)).length ≤ 16777216 := by
        rw [sum_len, List.length_map, show ((" " : Str)).length = 1 from by rw [blk_mk, mkS_len]; rfl]; omega
      have b2 : ((l2.map mkS).map fun x : Str => x.length).sum + (l2.map mkS).length * ((" " : Str)).length ≤ 16777216 := by
        rw [sum_len, List.length_map, show ((" " : Str)).length = 1 from by rw [blk_mk, mkS_len]; rfl]; omega
      refine ⟨⟨_, rfl⟩, .ref D, rfl, _, D, l1.map mkS, rfl, rfl, .inl (SqL.of (by rw [eD3, map_sV])), b1, ?_⟩
      refine ⟨⟨_, rfl⟩, .ref C, rfl, _, C, l2.map mkS, rfl, rfl, .inl (SqL.of (by rw [eC3, map_sV])), b2, ?_⟩
      refine ⟨by show 2 ≤ sizeLine; decide, fun p np => q _ p (same_upd k3 np) ?_⟩
      rw [upd_same, join_sp, join_sp, j1, j2]; rfl
theorem cell_sg (S : Sty) (ws : List Wrd) : (cellS S ws).1 = wSg S ws ws.length := rfl
/-- the law's cells -/
def CellsW (H : Hp) (v : V) (cs : List Arc) : Prop := CellsV H v cs
def spCellsL : Sp := fun vs H Q _ => ∃ (v y : V) (S : Sty) (Y : Tbl), vs = [v, y] ∧ StyV H v S ∧ StyOk S ∧ TbV H y Y ∧ TbOk Y ∧
  ∀ H' p c, Same H H' → H' p = some (.tup [nV (ntr Y), c]) → CellsV H' c (celsA S Y) → Q (.ref p) H'
theorem ok_lcells (T : Txt K mg) : FnOk P w K mg base CX0 3 T.a_law_cells_of T.d_law_cells_of ["_law_style_here", "_law_rows"] spCellsL := by
  have G_law_cell_signs : FnOk P w K mg base CX0 2 T.a_law_cell_signs T.d_law_cell_signs ["_law_style_here", "_law_words"] spCellSg := ok_cell_signs T
  refine T.D_law_cells_of.F.ok sc_law_cells_of (fun vs H Q E h => ?_) (fun cdv A outer s H vs Q E hr h => ?_)
  · obtain ⟨_, _, _, _, rfl, _⟩ := h
    rfl
  · obtain ⟨v, y, S, Y, rfl, sv, st, ⟨ta, us, rfl, et, lv⟩, ok, q⟩ := h
    have lus := lv.1
    have n12 := ok.n12
    have ⟨t1, t8, l96, tok⟩ := tab_ok (S := S) ok
    refine ⟨_, (pss_cons (ps_set (i := 2) sc_law_cells_of.nd rfl (.inl rfl) (pe_lst pa_nil))
      (pss_cons (ps_set (i := 3) sc_law_cells_of.nd rfl (.inl rfl) pe_int)
      (pss_cons (ps_for PassesOwn.never rfl (pi_tup (pv 1)) (pg_name (i := 4) sc_law_cells_of.nd rfl (.inl rfl)) (pss_cons (ps_set (i := 5) sc_law_cells_of.nd rfl (.inl rfl) pe_int)
      (pss_cons (ps_for PassesOwn.never rfl (pi_tup (pv 4)) (pg_tup (by rfl) (pgs_cons (pg_name (i := 6) sc_law_cells_of.nd rfl (.inl rfl)) (pgs_cons (pg_name (i := 7) sc_law_cells_of.nd rfl (.inl rfl)) pgs_nil))) (pss_cons (ps_expr (pe_bm PySem.F.plainAttrs_list PySem.F.slot_list_append PySem.F.type_list_append mt_append (pv 2) (pa_cons (pe_tup (pa_cons (pv 5) (pa_cons (pv 6) (pa_cons (pe_callB call_len_str (by rfl) T.n_len PySem.boot_len (pa_cons (pe_ix ix_tup (pe_call G_law_cell_signs (hr.mono (by decide)) (by rfl) T.D_law_cell_signs.G T.D_law_cell_signs.F.kp T.D_law_cell_signs.B .nil pass0 (pa_cons (pv 0) (pa_cons (pv 7) pa_nil))) pe_int (fun _ _ => rfl)) pa_nil)) pa_nil)))) pa_nil)))
      (pss_one (ps_set (i := 5) sc_law_cells_of.nd rfl (.inl rfl) (pe_op op_add (pv 5) (pv 6))))))
      (pss_one (ps_set (i := 3) sc_law_cells_of.nd rfl (.inl rfl) (pe_callB (call_max2 (by rfl)) (by rfl) T.n_max (by decide +kernel) (pa_cons (pv 3) (pa_cons (pv 5) pa_nil))))))))
      (pss_one (ps_ret (pe_tup (pa_cons (pv 3) (pa_cons (pe_callTy call_tuple_of (by rfl) T.n_tuple (by decide +kernel) (pa_cons (pv 2) pa_nil)) pa_nil)))))))), ?_⟩
    refine ⟨by show 0 ≤ sizeLine; decide, fun D nD => ?_⟩
    have k1 := same_upd (o := .lst []) (Same.refl H) nD
    have eD : upd H D (.lst []) D = some (.lst []) := upd_same
    generalize upd H D (.lst []) = H1 at k1 eD
    refine ⟨_, rfl, ta, rfl, ⟨_, SqT.of (k1 _ _ et)⟩, ?_⟩
    refine for_it (walk_tup (K := K) (a := ta) (xs := us)) (fun n σ' H' => ∃ (x4 x5 x6 x7 : Option V) (zs : List V), σ' = [some v, some (.ref ta), some (.ref D), some (nV (trN Y n)), x4, x5, x6, x7] ∧ Same H H' ∧ H' D = some (.lst zs) ∧ LV (ArcV H') zs (celsA S (Y.take n))) ⟨_, _, _, _, [], rfl, k1, eD, LV.nil⟩ ?_ ?_ ?_
    · rintro i σ1 H' _ ⟨_, _, _, _, _, _, k, _⟩
      exact SqT.of (k _ _ et)
    · rintro n x σ1 Ha H2 hn ⟨x4, x5, x6, x7, zs, rfl, k2, eD2, lz⟩ ⟨rfl, hx⟩
      obtain ⟨row, er, ra, rus, rfl, era, lr⟩ := lv.at hx
      have hrow : row ∈ Y := List.mem_of_getElem? er
      have rok := ok.rw row hrow
      have n8 := rok.n8
      have lrl := lr.1
      have lzl := lz.1
      have hcl := celsA_len (S := S) (Y := Y.take n) fun r h => (ok.rw r (List.mem_of_mem_take h)).n8
      rw [List.length_take] at hcl
      have ec : celsA S (Y.take (n + 1)) = celsA S (Y.take n) ++ rowA S row row.length := by
        unfold celsA
        rw [List.take_succ, er, List.flatMap_append]
        show _ ++ (rowA S row row.length ++ []) = _
        rw [List.append_nil]
      refine ⟨_, rfl, ra, rfl, ⟨_, SqT.of (k2 _ _ era)⟩, ?_⟩
      refine for_it (walk_tup (K := K) (a := ra) (xs := rus)) (fun u σ' H' => ∃ (x6 x7 : Option V) (zs : List V), σ' = [some v, some (.ref ta), some (.ref D), some (nV (trN Y n)), some (.ref ra), some (nV (trk row u)), x6, x7] ∧ Same H H' ∧ H' D = some (.lst zs) ∧ LV (ArcV H') zs (celsA S (Y.take n) ++ (rowA S row row.length).take u)) ⟨_, _, zs, rfl, k2, eD2, by rw [List.take_zero, List.append_nil]; exact lz⟩ ?_ ?_ ?_
      · rintro i σ2 H' _ ⟨_, _, _, _, k, _⟩
        exact SqT.of (k _ _ era)
      · rintro u x σ2 Hb H3 hu ⟨x6, x7, zs3, rfl, k3, eD3, lz3⟩ ⟨rfl, hx⟩
        obtain ⟨c, ec1, b, wt, wus, rfl, eb, ewt, lw⟩ := lr.at hx
        have hu2 : u < row.length := by omega
        have ec1 := Option.some.inj ((celAt_at hu2).symm.trans ec1)
        subst ec1
        have ⟨c1, wok⟩ := rok.at hu2
        have wl7 := wok.ln
        have lwl := lw.1
        have lz3l := lz3.1
        rw [List.length_append, List.length_take, rowA_len] at lz3l
        have cf := (cellS_facts st wok).2.2.2
        have hb : (mkS (wSg S (celAt row u).2 (celAt row u).2.length)).length ≤ sizeLine := by rw [mkS_len]; exact big_ok (Nat.le_trans (show _ ≤ 1300 from cf) (by decide))
        refine ⟨b, _, rfl, SqT.of (k3 _ _ eb), rfl, _, _, rfl, _, _, rfl, rfl, ?_⟩
        refine ⟨.ref D, rfl, .inl ⟨rfl, _, .inl (.inl eD3)⟩, ?_⟩
        refine ⟨_, rfl, _, rfl, _, rfl, _, rfl, v, wt, wus, S, (celAt row u).2, rfl, sv.mono (same_tup k3), st, k3 _ _ ewt, lw.mono fun _ _ z => z.kt (same_tup k3), wok, fun H4 p k4 ep => ?_⟩
        refine ⟨p, _, 0, _, rfl, rfl, SqT.of ep, rfl, _, rfl, hb, by show 3 ≤ sizeLine; decide, fun r nr => ?_⟩
        have eD4 := k4 _ _ eD3
        generalize hX : upd H4 r _ = X
        have hX : X = upd H4 r (.tup [nV (trk row u), nV (celAt row u).1, nV (cellS S (celAt row u).2).1.length]) := by
          rw [← hX, cell_sg, ← mkS_len]; rfl
        have eDX : X D = some (.lst zs3) := by rw [hX, upd_ne (ne_of_none eD4 nr)]; exact eD4
        have kX : Same H4 X := by rw [hX]; exact same_upd (Same.refl _) nr
        have rX : ArcV X (.ref r) (trk row u, (celAt row u).1, (cellS S (celAt row u).2).1.length) := by rw [hX]; exact ⟨r, rfl, upd_same⟩
        clear hX
        refine ⟨D, zs3, _, rfl, rfl, eDX, szN (by omega), ?_⟩
        refine ⟨_, rfl, _, rfl, _, _, rfl, rfl, ?_⟩
        have k3X := (k3.trans k4).trans kX
        refine ⟨_, _, zs3 ++ [.ref r], congrArg (fun z => [some v, some (V.ref ta), some (V.ref D), some (nV (trN Y n)), some (V.ref ra), some z, some (nV (celAt row u).1), some (V.ref wt)]) (show V.int ((trk row u : Int) + ((celAt row u).1 : Int)) = nV (trk row (u + 1)) from congrArg V.int (by rw [trk_succ hu2]; omega)), same_mut k3X nD, upd_same, ?_⟩
        have e : (rowA S row row.length).take (u + 1) = (rowA S row row.length).take u ++ [(trk row u, (celAt row u).1, (cellS S (celAt row u).2).1.length)] := by
          rw [List.take_succ]
          unfold rowA rowT
          rw [List.getElem?_map, List.getElem?_map, List.getElem?_range hu2]; rfl
        rw [e, ← List.append_assoc]
        exact LV.snoc (lz3.mono fun _ _ z => ((z.mono (same_tup k4)).mono (same_tup kX)).mono (kt_mut eDX)) (rX.mono (kt_mut eDX))
      · rintro σ2 H3 ⟨x6, x7, zs3, rfl, k3, eD3, lz3⟩
        refine ⟨_, rfl, _, rfl, _, _, rfl, ?_⟩
        refine ⟨_, _, _, _, zs3, congrArg (fun z => [some v, some (V.ref ta), some (V.ref D), some (V.int z), some (V.ref ra), some (nV (trk row rus.length)), x6, x7]) (show (if (trk row rus.length : Int) > (trN Y n : Int) then (trk row rus.length : Int) else (trN Y n : Int)) = ((trN Y (n + 1) : Nat) : Int) by rw [trN_succ er, lrl]; exact max_int _ _), k3, eD3, ?_⟩
        rw [ec]
        rw [lrl, List.take_of_length_le (Nat.le_of_eq (rowA_len S row row.length))] at lz3
        exact lz3
    · rintro σ1 H2 ⟨x4, x5, x6, x7, zs, rfl, k2, eD2, lz⟩
      rw [lus, List.take_length] at lz
      have lzl := lz.1
      rw [lus, trN_all]
      refine ⟨_, rfl, _, rfl, D, zs, rfl, .inl ⟨SqL.of eD2, fun t nt => ?_⟩⟩
      have k3 := same_upd (o := .tup zs) (Same.refl H2) nt
      have e3 : upd H2 t (.tup zs) t = some (.tup zs) := upd_same
      generalize upd H2 t (.tup zs) = H3 at k3 e3
      refine ⟨by show 2 ≤ sizeLine; decide, fun p np => ?_⟩
      have k4 := same_upd (o := .tup [nV (ntr Y), .ref t]) (Same.refl H3) np
      exact q _ p (.ref t) ((k2.trans k3).trans k4) upd_same ⟨t, zs, rfl, k4 _ _ e3, lz.mono fun _ _ z => (z.mono (same_tup k3)).mono (same_tup k4)⟩
end
end Vf

set_option Elab.async false
set_option linter.all false
set_option maxRecDepth 100000
set_option maxHeartbeats 4000000
namespace Vf
open PySem PySem.Spec PyProof.Rows L2 TL
/-! ### what is asked of a boundary by the ones ahead -/
def akR (f : Nat → Nat) (n : Nat) (r : Arc) : Option Nat := if r.1 + r.2.1 = n then some (f r.1 + r.2.2 + 1) else none
def akL (f : Nat → Nat) (n : Nat) (cs : List Arc) : List Nat := cs.filterMap (akR f n) ++ [f (n - 1) + 1]
def ak (cs : List Arc) (f : Nat → Nat) (n : Nat) : Nat := (mx (akL f n cs)).getD 0
theorem ak_spec (cs : List Arc) (f : Nat → Nat) (n : Nat) : ak cs f n ∈ akL f n cs ∧ ∀ x ∈ akL f n cs, x ≤ ak cs f n := by
  unfold ak
  cases e : mx (akL f n cs) with
  | none =>
    have := mx_nil.mp e
    unfold akL at this
    exact absurd (List.append_eq_nil_iff.mp this).2 (by simp)
  | some m => exact mx_spec e
theorem ak_of {cs : List Arc} {f : Nat → Nat} {n m : Nat} (h1 : m ∈ akL f n cs) (h2 : ∀ x ∈ akL f n cs, x ≤ m) : ak cs f n = m := by
  unfold ak
  rw [mx_of h1 h2]; rfl
theorem ak_mono {cs : List Arc} {f g : Nat → Nat} {n : Nat} (h1 : 1 ≤ n) (hs : ∀ r ∈ cs, 1 ≤ r.2.1) (h : ∀ i, i < n → f i ≤ g i) : ak cs f n ≤ ak cs g n := by
  have ⟨a, _⟩ := ak_spec cs f n
  have ⟨_, b⟩ := ak_spec cs g n
  rcases List.mem_append.mp a with a | a
  · obtain ⟨r, hr, e⟩ := List.mem_filterMap.mp a
    unfold akR at e
    by_cases c : r.1 + r.2.1 = n
    · rw [if_pos c] at e
      have e := Option.some.inj e
      have h2 := hs r hr
      have h3 := h r.1 (by omega)
      have h4 := b (g r.1 + r.2.2 + 1) (List.mem_append_left _ (List.mem_filterMap.mpr ⟨r, hr, by unfold akR; rw [if_pos c]⟩))
      omega
    · rw [if_neg c] at e; cases e
  · have e := List.mem_singleton.mp a
    have h3 := h (n - 1) (by omega)
    have h4 := b (g (n - 1) + 1) (List.mem_append_right _ (List.mem_singleton.mpr rfl))
    omega
theorem ak_bN {cs : List Arc} (n : Nat) (hs : ∀ r ∈ cs, 1 ≤ r.2.1) : ak cs (bN cs) (n + 1) = bN cs (n + 1) := by
  have ⟨a, b⟩ := mx_spec (bl_low n hs)
  have e : ∀ x, x ∈ akL (bN cs) (n + 1) cs ↔ x ∈ lowL cs (n + 1) cs := fun x => by
    unfold akL lowL
    refine List.mem_append.trans (Iff.trans ?_ List.mem_cons.symm)
    rw [List.mem_singleton]
    exact Or.comm
  exact ak_of ((e _).mpr a) fun x hx => b x ((e x).mp hx)
theorem bN_zero (cs : List Arc) : bN cs 0 = 0 := rfl
/-- a way that is not less -/
theorem way_ge {cs : List Arc} (hs : ∀ r ∈ cs, 1 ≤ r.2.1) {f : Nat → Nat} {m : Nat} (hf : ∀ n, n < m → ak cs f (n + 1) ≤ f (n + 1)) : ∀ n, n ≤ m → bN cs n ≤ f n := by
  intro n
  induction n using Nat.strongRecOn with
  | _ n ih =>
    intro hn
    cases n with
    | zero => exact Nat.zero_le _
    | succ n =>
      rw [← ak_bN n hs]
      refine Nat.le_trans (ak_mono (by omega) hs fun i hi => ih i hi (by omega)) (hf n (by omega))
def wyF (ws : List Nat) (i : Nat) : Nat := ws.getD i 0
theorem wyF_at {ws : List Nat} {i : Nat} (h : i < ws.length) : atI (ws.map nV) (i : Int) = some (nV (wyF ws i)) := by
  refine atI_nat ?_
  unfold wyF
  rw [List.getElem?_map, List.getD_eq_getElem?_getD, List.getElem?_eq_getElem h]; rfl
theorem akL_take {cs : List Arc} {f : Nat → Nat} {n i : Nat} {r : Arc} (h : cs[i]? = some r) : (cs.take (i + 1)).filterMap (akR f n) = (cs.take i).filterMap (akR f n) ++ (akR f n r).toList := by
  rw [List.take_succ, h, List.filterMap_append]
  cases e : akR f n r with
  | none =>
    show _ ++ ([r] : List Arc).filterMap _ = _
    rw [List.filterMap_cons_none e]; rfl
  | some x =>
    show _ ++ ([r] : List Arc).filterMap _ = _
    rw [List.filterMap_cons_some e]; rfl
section
variable {P : Program} {w : World} {K : PySem.W.Frag} {mg : Str → Option Value} {base : Heap}
def spAskOf : Sp := fun vs H Q _ => ∃ (c : V) (wa : Addr) (cs : List Arc) (ws : List Nat) (n : Nat), vs = [c, .ref wa, nV n] ∧ CellsV H c cs ∧ cs.length ≤ 1000 ∧ (∀ r ∈ cs, 1 ≤ r.2.1) ∧ SeqH H wa (ws.map nV) ∧ 1 ≤ n ∧ n ≤ ws.length ∧ ∀ H', Same H H' → Q (nV (ak cs (wyF ws) n)) H'
theorem ok_asked_of (T : Txt K mg) : FnOk P w K mg base CX0 1 T.a_law_asked_of T.d_law_asked_of ["_law_cells", "_law_ways", "_law_last"] spAskOf := by
  refine T.D_law_asked_of.F.ok sc_law_asked_of (fun vs H Q E h => ?_) (fun cdv A outer s H vs Q E hr h => ?_)
  · obtain ⟨_, _, _, _, _, rfl, _⟩ := h
    rfl
  · obtain ⟨c, wa, cs, ws, n, rfl, ⟨a, us, rfl, e1, lv⟩, hl, hs, sq, h1, hn, q⟩ := h
    have lus := lv.1
    refine ⟨_, (pss_cons (ps_setLc (i := 3) (own := [("_law_c", 4), ("_law_s", 5), ("_law_w", 6)]) (g := (gTup K 3 (gCons (gName 4) (gCons (gName 5) (gCons (gName 6) gNil))))) rfl sc_law_asked_of.nd rfl rfl (sw_true rfl rfl rfl (by decide +kernel)) (pi_tup (pv 0)) (blkOk_by (own := [("_law_c", 4), ("_law_s", 5), ("_law_w", 6)]) (N := ["_law_cells", "_law_ways", "_law_last", "_law_asked", "_law_c", "_law_s", "_law_w"]) (sc := (defScope s_law_asked_of)) (by decide +kernel)) (fun _ _ _ _ _ => (pg_tup (by rfl) (pgs_cons (pg_name (i := 4) sc_law_asked_of.nd rfl (.inl rfl)) (pgs_cons (pg_name (i := 5) sc_law_asked_of.nd rfl (.inl rfl)) (pgs_cons (pg_name (i := 6) sc_law_asked_of.nd rfl (.inl rfl)) pgs_nil))))) (fun _ _ _ _ _ => (pts_one (pt_cmpR op_eq (pe_op op_add (pv 4) (pv 5)) (pv 2) (nomark _)))) (fun _ _ _ _ _ => (pe_op op_add (pe_op op_add (pe_ix (r := rIx K) ix_seq (pv 1) (pv 4) (fun _ _ => rfl)) (pv 6)) pe_int)))
      (pss_one (ps_ret (pe_callB (cr_max (by rfl)) (by rfl) T.n_max (by decide +kernel) (pa_cons (pe_op op_cat (pv 3) (pe_lst (pa_cons (pe_op op_add (pe_ix ix_seq (pv 1) (pe_op op_sub (pv 2) pe_int) (fun _ _ => rfl)) pe_int) pa_nil))) pa_nil))))), ?_⟩
    refine ⟨_, rfl, a, rfl, ⟨us, SqT.of e1⟩, fun D nD => ?_⟩
    refine lc_it (walk_tup (K := K) (a := a) (xs := us)) (fun i H' => Same H H' ∧ H' D = some (.lst (((cs.take i).filterMap (akR (wyF ws) n)).map nV)) ∧ ((cs.take i).filterMap (akR (wyF ws) n)).length ≤ i) ⟨same_upd (Same.refl H) nD, upd_same, Nat.le_refl _⟩ ?_ ?_ ?_
    · rintro i H' _ ⟨k, _⟩
      exact SqT.of (k _ _ e1)
    · rintro i x H2 H3 hi ⟨k2, eD, ln⟩ ⟨rfl, hx⟩
      obtain ⟨r, hr, b, rfl, eb⟩ := lv.at hx
      have h2 := hs r (List.mem_of_getElem? hr)
      refine ⟨b, _, rfl, SqT.of (k2 _ _ eb), rfl, _, _, rfl, _, _, rfl, _, _, rfl, rfl, by kernel_rfl, ?_⟩
      refine ⟨nV r.1, by kernel_rfl, nV r.2.1, by kernel_rfl, _, _, rfl, rfl, nV n, by kernel_rfl, rfl, ?_⟩
      rw [akL_take hr]
      by_cases cc : r.1 + r.2.1 = n
      · have ec : akR (wyF ws) n r = some (wyF ws r.1 + r.2.2 + 1) := if_pos cc
        refine ⟨true, bTr (congrArg V.int (by omega)), ?_⟩
        refine ⟨.ref wa, by kernel_rfl, nV r.1, by kernel_rfl, (sq.same k2).rix (wyF_at (by omega)) ?_⟩
        refine ⟨nV r.2.2, by kernel_rfl, _, _, rfl, rfl, _, _, rfl, rfl, ?_⟩
        refine ⟨_, eD, by rw [List.length_map]; exact szN (by omega), same_mut k2 nD, ?_, ?_⟩
        · rw [upd_same, ec, List.map_append]; rfl
        · rw [ec, List.length_append]; show _ + 1 ≤ _; omega
      · have ec : akR (wyF ws) n r = none := if_neg cc
        refine ⟨false, bFa (fun z => cc (by have := V.int.inj z; omega)), ?_⟩
        refine ⟨k2, ?_, ?_⟩
        · rw [ec]; show _ = some (HO.lst ((_ ++ []).map nV)); rw [List.append_nil]; exact eD
        · rw [ec]; show (_ ++ []).length ≤ _; rw [List.append_nil]; omega
    rintro H2 ⟨k2, eD, ln⟩
    rw [lus, List.take_length] at eD ln
    refine ⟨.ref D, rfl, .ref wa, rfl, nV n, rfl, _, _, rfl, rfl, ?_⟩
    refine (sq.same k2).rix (by rw [show (n : Int) - 1 = ((n - 1 : Nat) : Int) by omega]; exact wyF_at (by omega)) ?_
    refine ⟨_, _, rfl, rfl, by show 1 ≤ sizeLine; decide, fun B nB => ?_⟩
    have k3 := same_upd (o := .lst [V.int ((wyF ws (n - 1) : Int) + 1)]) (Same.refl H2) nB
    have eB : upd H2 B (.lst [V.int ((wyF ws (n - 1) : Int) + 1)]) B = some (.lst [V.int ((wyF ws (n - 1) : Int) + 1)]) := upd_same
    have eD3 := k3 _ _ eD
    generalize upd H2 B (.lst [V.int ((wyF ws (n - 1) : Int) + 1)]) = H3 at k3 eB eD3
    refine ⟨D, B, _, _, rfl, rfl, eD3, eB, by rw [List.length_map]; exact Nat.le_of_lt (szN (by show _ + 1 < _; omega)), fun G nG => ?_⟩
    have k4 := same_upd (o := .lst ((cs.filterMap (akR (wyF ws) n)).map nV ++ [V.int ((wyF ws (n - 1) : Int) + 1)])) (Same.refl H3) nG
    have eg : (cs.filterMap (akR (wyF ws) n)).map nV ++ [V.int ((wyF ws (n - 1) : Int) + 1)] = ((akL (wyF ws) n cs).map fun x : Nat => (x : Int)).map V.int := by
      unfold akL
      rw [← nV_ints, List.map_append]; rfl
    refine ⟨G, (akL (wyF ws) n cs).map fun x : Nat => (x : Int), rfl, SqL.of (by rw [upd_same, eg]), ?_, fun m hm hM => ?_⟩
    · rw [List.length_map]
      exact List.length_pos_of_mem (ak_spec cs (wyF ws) n).1
    · obtain ⟨x, hx, rfl⟩ := List.mem_map.mp hm
      have : ak cs (wyF ws) n = x := ak_of hx fun y hy => by
        have := hM _ (List.mem_map.mpr ⟨y, hy, rfl⟩)
        omega
      rw [← this] at *
      exact q _ ((k2.trans k3).trans k4)
end
end Vf

set_option Elab.async false
set_option linter.all false
set_option maxRecDepth 100000
set_option maxHeartbeats 4000000
namespace Vf
open PySem PySem.Spec PyProof.Rows L2 TL
theorem ak_congr {cs : List Arc} {f g : Nat → Nat} {n : Nat} (h1 : 1 ≤ n) (hs : ∀ r ∈ cs, 1 ≤ r.2.1) (h : ∀ i, i < n → f i = g i) : ak cs f n = ak cs g n :=
  Nat.le_antisymm (ak_mono h1 hs fun i hi => Nat.le_of_eq (h i hi)) (ak_mono h1 hs fun i hi => Nat.le_of_eq (h i hi).symm)
theorem wyF_bl {cs : List Arc} {n i : Nat} (h : i ≤ n) : wyF (bl cs n) i = bN cs i := bl_get h
theorem ak_bl {cs : List Arc} {n i : Nat} (hs : ∀ r ∈ cs, 1 ≤ r.2.1) (h : i < n) : ak cs (wyF (bl cs n)) (i + 1) = bN cs (i + 1) := by
  rw [← ak_bN i hs]
  exact ak_congr (by omega) hs fun j hj => wyF_bl (by omega)
section
variable {P : Program} {w : World} {K : PySem.W.Frag} {mg : Str → Option Value} {base : Heap}
def spInts : Sp := fun vs H Q _ => ∃ (a : Addr) (ns : List Nat), vs = [.ref a, nV ns.length] ∧ H a = some (.tup (ns.map nV)) ∧ ns.length ≤ 1000 ∧ ∀ H', Same H H' → Q (.bl true) H'
theorem ok_ints (T : Txt K mg) : FnOk P w K mg base CX0 1 T.a_law_integers T.d_law_integers ["_law_told_here", "_law_many"] spInts := by
  refine T.D_law_integers.F.ok sc_law_integers (fun vs H Q E h => ?_) (fun cdv A outer s H vs Q E hr h => ?_)
  · obtain ⟨_, _, rfl, _⟩ := h
    rfl
  · obtain ⟨a, ns, rfl, ha, hl, q⟩ := h
    refine ⟨_, (pss_cons (ps_if (PW.pt (pw_or (pt_not (pt_val (pe_callB call_isi (by rfl) T.n_isinstance (by decide +kernel) (pa_cons (pv 0) (pa_cons (pe_bltn (v := .ty "tuple") (by rfl) T.n_tuple (by decide +kernel) rfl) pa_nil))))) (pw_or1 (pt_cmpR op_ne (pe_callB call_len_seq (by rfl) T.n_len PySem.boot_len (pa_cons (pv 0) pa_nil)) (pv 1) (nomark _))))) (pss_one (ps_ret pe_bl)) pss_nil)
      (pss_one (ps_ret (pe_cmpR (op_eqD (Room.units hr)) (pe_lc (own := [("_law_one", 2)]) (g := gName 2) rfl sc_law_integers.nd (pi_tup (pv 0)) (blkOk_by (own := [("_law_one", 2)]) (N := ["_law_told_here", "_law_many", "_law_one"]) (sc := (defScope s_law_integers)) (by decide +kernel)) (fun _ _ _ _ _ => (pg_name (i := 2) sc_law_integers.nd rfl (.inl rfl))) (fun _ _ _ _ _ => (pts_one (PW.pt (pw_or (pt_not (pt_val (pe_callB (id := "isinstance") (r := rIsi K) call_isi (by rfl) T.n_isinstance (by decide +kernel) (pa_cons (pv 2) (pa_cons (pe_bltn (v := .ty "int") (by rfl) T.n_int (by decide +kernel) rfl) pa_nil))))) (pw_or1 (pt_val (pe_callB (id := "isinstance") (r := rIsi K) call_isi (by rfl) T.n_isinstance (by decide +kernel) (pa_cons (pv 2) (pa_cons (pe_bltn (v := .ty "bool") (by rfl) T.n_bool (by decide +kernel) rfl) pa_nil))))))))) (fun _ _ _ _ _ => (pv 2))) (pe_lst pa_nil) (nomark _))))), ?_⟩
    refine ⟨_, rfl, _, _, .type "tuple", .type "tuple", true, rfl, .ty _, .base (.tup ha), kit_ty (by decide +kernel), _, rfl, ?_⟩
    refine ⟨_, rfl, _, _, rfl, .inr (SqT.of ha), nV ns.length, rfl, rfl, false, ?_, ?_⟩
    · rw [List.length_map, decide_eq_true (show V.int (ns.length : Int) = nV ns.length from rfl)]; rfl
    refine ⟨_, rfl, a, rfl, ⟨_, SqT.of ha⟩, fun D nD => ?_⟩
    refine lc_it (walk_tup (K := K) (a := a) (xs := ns.map nV)) (fun i H' => Same H H' ∧ H' D = some (.lst [])) ⟨same_upd (Same.refl H) nD, upd_same⟩ ?_ ?_ ?_
    · rintro i H' _ ⟨k, _⟩
      exact SqT.of (k _ _ ha)
    · rintro i x H2 H3 hi ⟨k2, eD⟩ ⟨rfl, hx⟩
      rw [List.getElem?_map] at hx
      obtain ⟨y, rfl⟩ : ∃ y : Nat, x = nV y := by
        cases e : ns[i]? with
        | none => rw [e] at hx; cases hx
        | some y => rw [e] at hx; exact ⟨y, (Option.some.inj hx).symm⟩
      refine ⟨by kernel_rfl, ?_⟩
      refine ⟨nV y, by kernel_rfl, _, _, .type "int", .type "int", true, rfl, .ty _, .base (.int _), kit_ty (by decide +kernel), _, rfl, ?_⟩
      refine ⟨nV y, by kernel_rfl, _, _, .type "int", .type "bool", false, rfl, .ty _, .base (.int _), kit_ty (by decide +kernel), _, rfl, ?_⟩
      exact ⟨k2, eD⟩
    rintro H2 ⟨k2, eD⟩
    refine ⟨by show 0 ≤ sizeLine; decide, fun B nB => ?_⟩
    have k3 := same_upd (o := .lst []) (Same.refl H2) nB
    exact ⟨.list [], .list [], .lst (SqL.of (k3 _ _ eD)) .nil, .lst (SqL.of upd_same) .nil, rfl, rfl, q _ (k2.trans k3)⟩
def spLeastT : Sp := fun vs H Q _ => ∃ (c : V) (a : Addr) (cs : List Arc) (n : Nat), vs = [nV n, c, .ref a] ∧ CellsV H c cs ∧ TabOk n cs ∧ H a = some (.tup ((bl cs n).map nV)) ∧ ∀ H', Same H H' → Q (.bl true) H'
theorem ok_leastT (T : Txt K mg) : FnOk P w K mg base CX0 2 T.a_law_least T.d_law_least ["_law_tracks", "_law_cells", "_law_told_here"] spLeastT := by
  have G_law_integers : FnOk P w K mg base CX0 1 T.a_law_integers T.d_law_integers ["_law_told_here", "_law_many"] spInts := ok_ints T
  have G_law_asked_of : FnOk P w K mg base CX0 1 T.a_law_asked_of T.d_law_asked_of ["_law_cells", "_law_ways", "_law_last"] spAskOf := ok_asked_of T
  refine T.D_law_least.F.ok sc_law_least (fun vs H Q E h => ?_) (fun cdv A outer s H vs Q E hr h => ?_)
  · obtain ⟨_, _, _, _, rfl, _⟩ := h
    rfl
  · obtain ⟨c, a, cs, n, rfl, hc, ok, ha, q⟩ := h
    obtain ⟨n1, n40, l1000, hs⟩ := ok
    have hs1 : ∀ r ∈ cs, 1 ≤ r.2.1 := fun r h => (hs r h).1
    have hlen := bl_len cs n
    refine ⟨_, (pss_cons (ps_if (PW.pt (pw_or (pt_not (pt_val (pe_call G_law_integers (hr.mono (by decide)) (by rfl) T.D_law_integers.G T.D_law_integers.F.kp T.D_law_integers.B .nil pass0 (pa_cons (pv 2) (pa_cons (pe_op op_add (pv 0) pe_int) pa_nil))))) (pw_or1 (pt_cmpR op_ne (pe_ix ix_tup (pv 2) pe_int (fun _ _ => rfl)) pe_int (nomark _))))) (pss_one (ps_ret pe_bl)) pss_nil)
      (pss_cons (ps_for PassesOwn.never rfl (pi_range2 (by rfl) T.n_range (pa_cons pe_int (pa_cons (pe_op op_add (pv 0) pe_int) pa_nil))) (pg_name (i := 3) sc_law_least.nd rfl (.inl rfl)) (pss_cons (ps_set (i := 4) sc_law_least.nd rfl (.inl rfl) (pe_call G_law_asked_of (hr.mono (by decide)) (by rfl) T.D_law_asked_of.G T.D_law_asked_of.F.kp T.D_law_asked_of.B .nil pass0 (pa_cons (pv 1) (pa_cons (pv 2) (pa_cons (pv 3) pa_nil)))))
      (pss_one (ps_if (PW.pt (pw_or (pt_cmpR op_lt (pe_ix ix_tup (pv 2) (pv 3) (fun _ _ => rfl)) (pv 4) (nomark _)) (pw_or1 (pt_cmpR op_ge (pe_op op_sub (pe_ix ix_tup (pv 2) (pv 3) (fun _ _ => rfl)) pe_int) (pv 4) (nomark _))))) (pss_one (ps_ret pe_bl)) pss_nil))))
      (pss_one (ps_ret pe_bl)))), ?_⟩
    refine ⟨_, rfl, _, rfl, _, _, rfl, rfl, a, bl cs n, by rw [hlen]; rfl, ha, by omega, fun H1 k1 => ⟨true, rfl, ?_⟩⟩
    have ha1 := k1 _ _ ha
    refine ⟨_, rfl, a, _, 0, nV 0, rfl, rfl, SqT.of ha1, by have := bl_ix (cs := cs) (i := 0) (n := n) (Nat.zero_le _); exact atI_nat (j := 0) this, rfl, false, rfl, ?_⟩
    refine ⟨_, rfl, _, _, rfl, rfl, _, _, rfl, ⟨by decide, by decide, by omega, by omega⟩, ?_⟩
    rw [show ((n : Int) + 1 - 1).toNat = n by omega]
    refine for_it walk_range (fun i σ' H' => ∃ (x3 x4 : Option V), σ' = [some (nV n), some c, some (.ref a), x3, x4] ∧ Same H H') ⟨_, _, rfl, k1⟩ (fun _ _ _ _ _ => trivial) ?_ ?_
    · rintro i x σ' Ha H2 hi ⟨x3, x4, rfl, k2⟩ ⟨rfl, hx⟩
      have hx : x = nV (i + 1) := by rw [hx]; show V.int (1 + (i : Int)) = _; rw [show 1 + (i : Int) = ((i + 1 : Nat) : Int) by omega]; rfl
      subst hx
      have hi : i < n := hi
      have ha2 := k2 _ _ ha
      obtain ⟨ca, cus, rfl, ec, lc⟩ := id hc
      refine ⟨_, rfl, _, rfl, _, rfl, .ref ca, a, cs, bl cs n, i + 1, rfl, ⟨ca, cus, rfl, k2 _ _ ec, lc.mono fun _ _ z => z.mono (same_tup k2)⟩, l1000, hs1, .inl ha2, by omega, by omega, fun H3 k3 => ?_⟩
      rw [ak_bl hs1 hi]
      have ha3 := k3 _ _ ha2
      have ix : atI ((bl cs n).map nV) ((i + 1 : Nat) : Int) = some (nV (bN cs (i + 1))) := atI_nat (bl_ix (by omega))
      refine ⟨_, rfl, _, rfl, a, _, _, _, rfl, rfl, SqT.of ha3, ix, _, rfl, _, _, rfl, rfl, false, bF (by omega), ?_⟩
      refine ⟨_, rfl, _, rfl, a, _, _, _, rfl, rfl, SqT.of ha3, ix, _, _, rfl, rfl, _, rfl, _, _, rfl, rfl, false, bF (by omega), ?_⟩
      exact ⟨_, _, rfl, k2.trans k3⟩
    · rintro σ' H2 ⟨x3, x4, rfl, k2⟩
      exact q _ k2
def spNotLess : Sp := fun vs H Q _ => ∃ (d l : Addr) (c : V) (a : Addr) (cs : List Arc) (n : Nat), vs = [.ref d, nV n, c, .ref a] ∧ DI d l H ∧ CellsV H c cs ∧ TabOk n cs ∧ H a = some (.tup ((bl cs n).map nV)) ∧ ∀ H', Kp d H H' → DI d l H' → Q (.bl true) H'
theorem ok_not_less (T : Txt K mg) : FnOk P w K mg base CX0 3 T.a_law_not_less T.d_law_not_less ["_law_d", "_law_tracks", "_law_cells", "_law_told_here"] spNotLess := by
  have G_law_draw : FnOk P w K mg base CX0 1 T.a_law_draw T.d_law_draw ["_law_d", "_law_many"] spDraw := ok_draw T
  have G_law_pick : FnOk P w K mg base CX0 2 T.a_law_pick T.d_law_pick ["_law_d", "_law_row"] (spPick K) := ok_pick T
  have G_law_asked_of : FnOk P w K mg base CX0 1 T.a_law_asked_of T.d_law_asked_of ["_law_cells", "_law_ways", "_law_last"] spAskOf := ok_asked_of T
  refine T.D_law_not_less.F.ok sc_law_not_less (fun vs H Q E h => ?_) (fun cdv A outer s H vs Q E hr h => ?_)
  · obtain ⟨_, _, _, _, _, _, rfl, _⟩ := h
    rfl
  · obtain ⟨d, l, c, a, cs, n, rfl, hD, ⟨ca, cus, rfl, ec, lc⟩, ok, ha, q⟩ := h
    obtain ⟨n1, n40, l1000, hs⟩ := ok
    have hs1 : ∀ r ∈ cs, 1 ≤ r.2.1 := fun r h => (hs r h).1
    refine ⟨_, (pss_cons (ps_set (i := 4) sc_law_not_less.nd rfl (.inr rfl) (pe_lst (pa_cons pe_int pa_nil)))
      (pss_cons (ps_for PassesOwn.never rfl (pi_range2 (by rfl) T.n_range (pa_cons pe_int (pa_cons (pe_op op_add (pv 1) pe_int) pa_nil))) (pg_name (i := 5) sc_law_not_less.nd rfl (.inl rfl)) (pss_one (ps_expr (pe_bm PySem.F.plainAttrs_list PySem.F.slot_list_append PySem.F.type_list_append mt_append (pv 4) (pa_cons (pe_op op_add (pe_call G_law_asked_of (hr.mono (by decide)) (by rfl) T.D_law_asked_of.G T.D_law_asked_of.F.kp T.D_law_asked_of.B .nil pass0 (pa_cons (pv 2) (pa_cons (pv 4) (pa_cons (pv 5) pa_nil)))) (pe_call G_law_pick (hr.mono (by decide)) (by rfl) T.D_law_pick.G T.D_law_pick.F.kp T.D_law_pick.B .nil pass0 (pa_cons (pv 0) (pa_cons (pe_lst (pa_cons pe_int (pa_cons pe_int (pa_cons pe_int (pa_cons (pe_call G_law_draw (hr.mono (by decide)) (by rfl) T.D_law_draw.G T.D_law_draw.F.kp T.D_law_draw.B .nil pass0 (pa_cons (pv 0) (pa_cons pe_int pa_nil))) pa_nil))))) pa_nil)))) pa_nil)))))
      (pss_one (ps_ret (pe_cmpR (op_eqD (Room.units hr)) (pe_lc (own := [("_law_k", 6)]) (g := gName 6) rfl sc_law_not_less.nd (pi_range1 (by rfl) T.n_range (pa_cons (pe_op op_add (pv 1) pe_int) pa_nil)) (blkOk_by (own := [("_law_k", 6)]) (N := ["_law_d", "_law_tracks", "_law_cells", "_law_told_here", "_law_ways", "_law_last", "_law_k"]) (sc := (defScope s_law_not_less)) (by decide +kernel)) (fun _ _ _ _ _ => (pg_name (i := 6) sc_law_not_less.nd rfl (.inl rfl))) (fun _ _ _ _ _ => (pts_one (pt_cmpR op_lt (pe_ix (r := rIxL K) ix_list (pv 4) (pv 6) (fun _ _ => rfl)) (pe_ix (r := rIxT K) ix_tup (pv 3) (pv 6) (fun _ _ => rfl)) (nomark _)))) (fun _ _ _ _ _ => (pv 6))) (pe_lst pa_nil) (nomark _)))))), ?_⟩
    refine ⟨by show 1 ≤ sizeLine; decide, fun D nD => ?_⟩
    have nDd := hD.nd nD
    have k1 := (Kp.refl d H).new (o := .lst [V.int 0]) nD
    have D1 := hD.new (o := .lst [V.int 0]) nD
    have t1 : TK H (upd H D (.lst [V.int 0])) := TK.new (TK.refl _) nD
    have eD : upd H D (.lst [V.int 0]) D = some (.lst [V.int 0]) := upd_same
    generalize upd H D (.lst [V.int 0]) = H1 at k1 D1 eD t1
    refine ⟨_, rfl, _, _, rfl, rfl, _, _, rfl, ⟨by decide, by decide, by omega, by omega⟩, ?_⟩
    rw [show ((n : Int) + 1 - 1).toNat = n by omega]
    refine for_it walk_range (fun i σ' H' => ∃ (x5 : Option V) (ws : List Nat), σ' = [some (.ref d), some (nV n), some (.ref ca), some (.ref a), some (.ref D), x5, none] ∧ Kp d H H' ∧ DI d l H' ∧ TK H H' ∧ H' D = some (.lst (ws.map nV)) ∧ ws.length = i + 1 ∧ ∀ j, j < i → ak cs (wyF ws) (j + 1) ≤ wyF ws (j + 1)) ⟨_, [0], rfl, k1, D1, t1, eD, rfl, fun j hj => absurd hj (Nat.not_lt_zero _)⟩ (fun _ _ _ _ _ => trivial) ?_ ?_
    · rintro i x σ' Ha H2 hi ⟨x5, ws, rfl, k2, D2, t2, eD2, hl, hw⟩ ⟨rfl, hx⟩
      have hx : x = nV (i + 1) := by rw [hx]; show V.int (1 + (i : Int)) = _; rw [show 1 + (i : Int) = ((i + 1 : Nat) : Int) by omega]; rfl
      subst hx
      have hi : i < n := hi
      refine ⟨.ref D, rfl, .inl ⟨rfl, _, .inl (.inl eD2)⟩, ?_⟩
      refine ⟨_, rfl, _, rfl, _, rfl, .ref ca, D, cs, ws, i + 1, rfl, ⟨ca, cus, rfl, t2 _ _ ec, lc.mono fun _ _ z => z.mono t2⟩, l1000, hs1, .inr eD2, by omega, by omega, fun H3 k3 => ?_⟩
      have D3 := D2.keep k3
      refine ⟨_, rfl, _, rfl, d, l, 30, rfl, D3, by decide, fun H4 r k4 D4 a1 a2 => ?_⟩
      obtain ⟨g, rfl, hg⟩ := draw_nt (by decide) a1 a2
      have k34 := Kp.of_same (d := d) k3
      have t3 : TK H2 H4 := (TK.same k3).trans (kpTup D3 k4)
      have eD4 := k4 _ _ nDd.1 (k3 _ _ eD2)
      refine ⟨by show 4 ≤ sizeLine; decide, fun p np => ?_⟩
      have kp := k4.new (o := .lst [V.int 0, .int 0, .int 1, .int (g : Int)]) np
      refine ⟨d, l, _, _, rfl, D4.new np, .inl ⟨p, rfl, (D4.nd np).1, SqL.of upd_same⟩, by show 0 < 4; decide, by show 4 ≤ 1000; decide, fun H5 v k5 D5 hv => ?_⟩
      obtain ⟨m, rfl⟩ : ∃ m : Nat, v = nV m := by
        simp only [List.mem_cons, List.not_mem_nil, or_false] at hv
        rcases hv with rfl | rfl | rfl | rfl
        · exact ⟨0, rfl⟩
        · exact ⟨0, rfl⟩
        · exact ⟨1, rfl⟩
        · exact ⟨g, rfl⟩
      have k35 := kp.trans k5
      have eD5 := k35 _ _ nDd.1 (k3 _ _ eD2)
      have t35 : TK H2 H5 := (TK.same k3).trans (kpTup D3 k35)
      refine ⟨_, _, rfl, rfl, ?_⟩
      refine ⟨D, _, _, rfl, rfl, eD5, by rw [List.length_map]; exact szN (by omega), ?_⟩
      have el : (ws ++ [ak cs (wyF ws) (i + 1) + m]).length = i + 1 + 1 := by rw [List.length_append, hl]; rfl
      have old : ∀ j, j < i + 1 → wyF (ws ++ [ak cs (wyF ws) (i + 1) + m]) j = wyF ws j := fun j hj => by
        unfold wyF
        exact getD_left (by omega)
      refine ⟨_, ws ++ [ak cs (wyF ws) (i + 1) + m], rfl, ((k2.trans k34).trans k35).mut nD, D5.at nDd.1 nDd.2, (t2.trans t35).trans (TK.mut (TK.refl _) eD5), by rw [upd_same, List.map_append]; rfl, el, fun j hj => ?_⟩
      by_cases c : j < i
      · rw [old (j + 1) (by omega)]
        have := hw j c
        rw [ak_congr (by omega) hs1 fun q hq => old q (by omega)]
        exact this
      · have ej : j = i := by omega
        subst ej
        rw [ak_congr (by omega) hs1 fun q hq => old q (by omega)]
        have : wyF (ws ++ [ak cs (wyF ws) (j + 1) + m]) (j + 1) = ak cs (wyF ws) (j + 1) + m := by
          unfold wyF
          exact getD_last (by omega)
        rw [this]
        omega
    · rintro σ' H2 ⟨x5, ws, rfl, k2, D2, t2, eD2, hl, hw⟩
      have hge : ∀ j, j ≤ n → bN cs j ≤ wyF ws j := way_ge hs1 hw
      refine ⟨_, rfl, _, _, rfl, rfl, (n : Int) + 1, rfl, by omega, by omega, ?_⟩
      rw [show ((n : Int) + 1).toNat = n + 1 by omega]
      refine fun B nB => lc_range (lo := 0) (n := n + 1) (fun i H' => Same H2 H' ∧ H' B = some (.lst [])) ⟨same_upd (Same.refl H2) nB, upd_same⟩ (fun i H3 hi p => ⟨rfl, ?_⟩) (fun H3 p => ?_)
      · obtain ⟨k3, eB⟩ := p
        have ei : V.int (0 + (i : Int)) = nV i := by rw [Int.zero_add]; rfl
        have a3 := (t2.trans (TK.same k3)) _ _ ha
        refine ⟨.ref D, rfl, _, rfl, D, _, _, _, rfl, rfl, SqL.of (k3 _ _ eD2), by rw [Int.zero_add]; exact wyF_at (by omega), .ref a, rfl, _, rfl, a, _, _, _, rfl, rfl, SqT.of a3, by rw [Int.zero_add]; exact atI_nat (bl_ix (by omega)), _, _, rfl, rfl, false, bF (by have := hge i (by omega); omega), k3, eB⟩
      · obtain ⟨k3, eB⟩ := p
        refine ⟨by show 0 ≤ sizeLine; decide, fun C nC => ?_⟩
        have k4 := same_upd (o := .lst []) (Same.refl H3) nC
        exact ⟨.list [], .list [], .lst (SqL.of (k4 _ _ eB)) .nil, .lst (SqL.of upd_same) .nil, rfl, rfl, q _ (k2.trans (Kp.of_same (k3.trans k4))) (D2.keep (k3.trans k4))⟩
end
end Vf

set_option Elab.async false
set_option linter.all false
set_option maxRecDepth 100000
set_option maxHeartbeats 4000000
namespace Vf
open PySem PySem.Spec PyProof.Rows L2 TL
/-! ### the law's own demand -/
def dV : Option Nat → V
  | none => .non
  | some x => nV x
def pd (a b : Int) : PyData := .tuple [.int a, .int b]
theorem pd_eqv (a b p q : Int) : PyData.eqv (pd a b) (pd p q) = decide (a = p ∧ b = q) := by
  unfold pd
  simp only [PyData.eqv, PyData.eqvAll, Bool.and_true]
  rw [Bool.eq_iff_iff]
  simp
theorem pd_shaped (a b : Int) : SeqAt.shaped (pd a b) = true := by
  unfold pd
  show (PyData.canLay0 _ && decide (PyData.depth _ ≤ 64)) = true
  rw [Bool.and_eq_true]
  refine ⟨by simp only [PyData.canLay0, PyData.canLayAll0]; rfl, decide_eq_true ?_⟩
  simp only [PyData.depth, PyData.depthAll]
  decide
theorem pd_dp {K : PySem.W.Frag} {H : Hp} {t : Addr} {a b : Int} (e : H t = some (.tup [.int a, .int b])) : Dp K H (.ref t) (pd a b) :=
  .tup (SqT.of e) (.cons (.int a) (.cons (.int b) .nil))
section
variable {P : Program} {w : World} {K : PySem.W.Frag} {mg : Str → Option Value} {base : Heap}
def spLawDemand : Sp := fun vs H Q _ => ∃ (v : V) (cs : List Arc) (p q : Int), vs = [v, .int p, .int q] ∧ CellsV H v cs ∧ cs.length ≤ 1000 ∧ ∀ H', Same H H' → Q (dV (demI cs p q)) H'
theorem ok_law_demand (T : Txt K mg) : FnOk P w K mg base CX0 1 T.a_law_demand T.d_law_demand ["_law_cells", "_law_first", "_law_last"] spLawDemand := by
  refine T.D_law_demand.F.ok sc_law_demand (fun vs H Q E h => ?_) (fun cdv A outer s H vs Q E hr h => ?_)
  · obtain ⟨v, cs, p, q, rfl, _⟩ := h
    rfl
  · obtain ⟨v, cs, p, q, rfl, ⟨a, us, rfl, e1, lv⟩, hl, hQ⟩ := h
    refine ⟨_, (pss_cons (ps_setLc (i := 3) (own := [("_law_c", 4), ("_law_s", 5), ("_law_w", 6)]) (g := (gTup K 3 (gCons (gName 4) (gCons (gName 5) (gCons (gName 6) gNil))))) rfl sc_law_demand.nd rfl rfl (sw_true rfl rfl rfl (by decide +kernel)) (pi_tup (pv 0)) (blkOk_by (own := [("_law_c", 4), ("_law_s", 5), ("_law_w", 6)]) (N := ["_law_cells", "_law_first", "_law_last", "_law_demands", "_law_c", "_law_s", "_law_w"]) (sc := (defScope s_law_demand)) (by decide +kernel)) (fun _ _ _ _ _ => (pg_tup (by rfl) (pgs_cons (pg_name (i := 4) sc_law_demand.nd rfl (.inl rfl)) (pgs_cons (pg_name (i := 5) sc_law_demand.nd rfl (.inl rfl)) (pgs_cons (pg_name (i := 6) sc_law_demand.nd rfl (.inl rfl)) pgs_nil))))) (fun _ _ _ _ _ => (pts_one (pt_cmpR (r := rEqD K) (op_eqD (Room.units hr)) (pe_tup (pa_cons (pv 4) (pa_cons (pe_op op_add (pv 4) (pv 5)) pa_nil))) (pe_tup (pa_cons (pv 1) (pa_cons (pv 2) pa_nil))) (nomark _)))) (fun _ _ _ _ _ => (pe_op op_add (pv 6) pe_int)))
      (Evl.pss_cut (ps_if (pt_cmpR op_eq (pv 2) (pe_op op_add (pv 1) pe_int) (nomark _)) (pss_one (ps_expr (pe_bm PySem.F.plainAttrs_list PySem.F.slot_list_append PySem.F.type_list_append mt_append (pv 3) (pa_cons pe_int pa_nil)))) pss_nil)
      (pss_one (ps_ret (pe_ifExp (pt_truth (pv 3) (by intro _; rfl)) (pe_callB (cr_max (by rfl)) (by rfl) T.n_max (by decide +kernel) (pa_cons (pv 3) pa_nil)) pe_non))))), ?_⟩
    refine ⟨_, rfl, a, rfl, ⟨us, SqT.of e1⟩, fun D nD => ?_⟩
    refine lc_it (walk_tup (K := K) (a := a) (xs := us)) (fun i H' => Same H H' ∧ H' D = some (.lst (((cs.take i).filterMap (msI p q)).map nV)) ∧ ((cs.take i).filterMap (msI p q)).length ≤ i) ⟨same_upd (Same.refl H) nD, upd_same, Nat.le_refl _⟩ ?_ ?_ ?_
    · rintro i H' _ ⟨k, _⟩
      exact SqT.of (k _ _ e1)
    · rintro i x H2 H3 hi ⟨k2, eD, ln⟩ ⟨rfl, hx⟩
      obtain ⟨r, hr, c, rfl, ec⟩ := lv.at hx
      have hil : i < cs.length := (List.getElem?_eq_some_iff.mp hr).1
      refine ⟨c, _, rfl, SqT.of (k2 _ _ ec), rfl, _, _, rfl, _, _, rfl, _, _, rfl, rfl, rfl, ?_⟩
      refine ⟨_, rfl, _, rfl, _, rfl, _, _, rfl, rfl, by show 2 ≤ sizeLine; decide, fun t nt => ?_⟩
      have k4 := same_upd (o := .tup [V.int (r.1 : Int), V.int ((r.1 : Int) + (r.2.1 : Int))]) (Same.refl H3) nt
      have et : upd H3 t (.tup [V.int (r.1 : Int), V.int ((r.1 : Int) + (r.2.1 : Int))]) t = some (.tup [V.int (r.1 : Int), V.int ((r.1 : Int) + (r.2.1 : Int))]) := upd_same
      refine ⟨_, rfl, _, rfl, by show 2 ≤ sizeLine; decide, fun u nu => ?_⟩
      have k5 := same_upd (o := .tup [V.int p, V.int q]) (Same.refl _) nu
      refine ⟨_, _, pd_dp (k5 _ _ et), pd_dp upd_same, pd_shaped _ _, pd_shaped _ _, ?_⟩
      rw [pd_eqv]
      have kk := k4.trans k5
      generalize upd (upd H3 t (.tup [V.int (r.1 : Int), V.int ((r.1 : Int) + (r.2.1 : Int))])) u (.tup [V.int p, V.int q]) = H6 at kk
      have rs : (cs.take (i + 1)).filterMap (msI p q) = (cs.take i).filterMap (msI p q) ++ (msI p q r).toList := by
        rw [take_succ' hr, List.filterMap_append]
        cases h : msI p q r with
        | none => rw [List.filterMap_cons_none h]; rfl
        | some x => rw [List.filterMap_cons_some h]; rfl
      by_cases cc : (r.1 : Int) = p ∧ (r.1 : Int) + (r.2.1 : Int) = q
      · have ec : msI p q r = some (r.2.2 + 1) := if_pos cc
        refine ⟨true, bTr cc, ?_⟩
        refine ⟨_, rfl, _, _, rfl, rfl, _, kk _ _ eD, by rw [List.length_map]; exact szN (by omega), same_mut (k2.trans kk) nD, ?_, ?_⟩
        · rw [upd_same, rs, ec, List.map_append]; rfl
        · rw [rs, ec, List.length_append]; show _ + 1 ≤ _; omega
      · have ec : msI p q r = none := if_neg cc
        refine ⟨false, bFa cc, k2.trans kk, ?_, ?_⟩
        · rw [rs, ec]; show _ = some (HO.lst ((_ ++ []).map nV)); rw [List.append_nil]; exact kk _ _ eD
        · rw [rs, ec]; show (_ ++ []).length ≤ _; rw [List.append_nil]; omega
    · rintro H2 ⟨k2, eD, ln⟩
      rw [lv.1, List.take_length] at eD ln
      refine ⟨fun σ' H' => ∃ (l : List Nat) (x4 x5 x6 : Option V), σ' = [some (.ref a), some (.int p), some (.int q), some (.ref D), x4, x5, x6] ∧ Same H H' ∧ H' D = some (.lst (l.map nV)) ∧ mx l = demI cs p q, ?_, ?_⟩
      · refine ⟨_, rfl, _, rfl, _, _, rfl, rfl, rfl, ?_⟩
        by_cases c : q = p + 1
        · refine ⟨true, bTr (by rw [c]), ?_⟩
          refine ⟨.ref D, rfl, .inl ⟨rfl, _, .inl (.inl eD)⟩, D, _, _, rfl, rfl, eD, by rw [List.length_map]; exact szN (by omega), ?_⟩
          refine ⟨cs.filterMap (msI p q) ++ [1], _, _, _, rfl, same_mut k2 nD, by rw [upd_same, List.map_append]; rfl, ?_⟩
          unfold demI
          rw [if_pos c]
        · refine ⟨false, bFa (fun z => c (V.int.inj z)), ?_⟩
          refine ⟨cs.filterMap (msI p q), _, _, _, rfl, k2, eD, ?_⟩
          unfold demI
          rw [if_neg c, List.append_nil]
      · rintro σ' H3 ⟨l, x4, x5, x6, rfl, k3, eL, em⟩
        cases l with
        | nil =>
          refine ⟨_, rfl, false, .inl ⟨_, SqL.of eL, rfl⟩, ?_⟩
          have := hQ H3 k3
          rw [← em] at this
          exact this
        | cons x r =>
          refine ⟨_, rfl, true, .inl ⟨_, SqL.of eL, rfl⟩, ?_⟩
          refine ⟨_, rfl, D, (x :: r).map (fun x : Nat => (x : Int)), rfl, SqL.of (by rw [eL, List.map_map]; rfl), by simp, fun m hm hM => ?_⟩
          obtain ⟨v0, hv0, rfl⟩ := List.mem_map.mp hm
          have e0 : mx (x :: r) = some v0 := mx_of hv0 fun y hy => by
            have := hM (y : Int) (List.mem_map.mpr ⟨y, hy, rfl⟩)
            omega
          have := hQ H3 k3
          rw [← em, e0] at this
          exact this
end
end Vf

set_option Elab.async false
set_option linter.all false
set_option maxRecDepth 100000
set_option maxHeartbeats 4000000
namespace Vf
open PySem PySem.Spec PyProof.Rows L2
/-! ### zip of two walks, each over a list, a tuple or a text -/
inductive Zs where
  | L (a : Addr)
  | T (a : Addr)
  | S (x : Str)
def Zs.v : Zs → V
  | .L a => .ref a
  | .T a => .ref a
  | .S x => .str x
def Zs.has (K : PySem.W.Frag) (H : Hp) (xs : List V) : Zs → Prop
  | .L a => SqL K H a xs
  | .T a => SqT K H a xs
  | .S x => xs = x.cps.toList.map fun c => V.str ⟨#[c]⟩
def Zs.it (h : Heap) (i : Addr) (k : Nat) : Zs → Prop
  | .L a => h.IsListIter i a k
  | .T a => h.IsTupleIter i a k
  | .S x => ∃ t, h.IsStrIter i (strIterType x) x t k
def Zs.off (c : Addr) : Zs → Prop
  | .L a => a ≠ c
  | .T a => a ≠ c
  | .S _ => True
def Zs.fp (i : Addr) : Zs → List Addr
  | .L a => [i, a]
  | .T a => [i, a]
  | .S _ => [i]
theorem Zs.mem_fp {p : Zs} {i c : Addr} (h1 : c ≠ i) (h2 : p.off c) : c ∉ p.fp i := by
  cases p with
  | L a => simp only [Zs.fp, List.mem_cons, List.not_mem_nil, or_false, not_or]; exact ⟨h1, fun e => h2 e.symm⟩
  | T a => simp only [Zs.fp, List.mem_cons, List.not_mem_nil, or_false, not_or]; exact ⟨h1, fun e => h2 e.symm⟩
  | S x => simp only [Zs.fp, List.mem_cons, List.not_mem_nil, or_false]; exact h1
theorem Zs.at {p : Zs} {h h' : Heap} {i : Addr} {k : Nat} (st : p.it h i k) (e : ∀ o, h.get? i = some o → h'.get? i = some o) : p.it h' i k := by
  cases p with
  | L a => exact Heap.IsListIter.at st e
  | T a => exact Heap.IsTupleIter.at st e
  | S x => obtain ⟨t, o, ho, r⟩ := st; exact ⟨t, o, e _ ho, r⟩
theorem Zs.obj {p : Zs} {h : Heap} {i : Addr} {k : Nat} (st : p.it h i k) : ∃ o, h.get? i = some o ∧ ∀ v, o.data ≠ .cell v := by
  cases p with
  | L a => obtain ⟨o, e, _, d⟩ := st; exact ⟨o, e, fun v q => by rw [d] at q; cases q⟩
  | T a => obtain ⟨o, e, _, d⟩ := st; exact ⟨o, e, fun v q => by rw [d] at q; cases q⟩
  | S x => obtain ⟨t, o, e, _, d⟩ := st; exact ⟨o, e, fun v q => by rw [d] at q; cases q⟩
theorem Zs.one {K : PySem.W.Frag} {X : Cx} {pins : List (Addr × Obj)} {σ : L2.St} {H : Hp} {s : Shared} {p : Zs} {xs ys : List V} (hK : X.K = K) (I : Inv X pins σ H s) (h1 : p.has K H xs) (h2 : p.has K H ys) : xs = ys := by
  subst hK
  cases p with
  | L a => exact I.list_inj h1 h2
  | T a => exact I.tuple_inj h1 h2
  | S x => exact h1.trans h2.symm
/-- what such an iterator draws where the heap stands -/
theorem Zs.draws {X : Cx} {pins : List (Addr × Obj)} {σ : L2.St} {H : Hp} {s : Shared} {p : Zs} {xs : List V} {i : Addr} {k : Nat} (hc : X.calm = true) (I : Inv X pins σ H s) (h : p.has X.K H xs) (st : p.it s.heap i k) (ho : p.off i) :
    ∃ (n : Nat) (P : Nat → Value → Prop) (St : Nat → Heap → Prop), Draws X.prog X.w X.A.in1 i (p.fp i) n P St ∧ St k s.heap ∧ n = xs.length ∧ (∀ u v, P k u → xs[k]? = some v → RelV v u) ∧ ∀ j h', St j h' → p.it h' i j := by
  have hh : X.A.in1.handled = none := I.ok.hd hc
  cases p with
  | L a =>
    obtain ⟨its, rv, q, _⟩ := I.list h
    refine ⟨_, _, _, Draws.list hh i a ho its.toArray, ⟨st, q.isList⟩, by have := rv.length; simp; omega, fun u v hu hv => ?_, fun j h' q => q.1⟩
    obtain ⟨u', hu', r⟩ := rv.get hv
    have e : its[k]? = some u := by simpa using hu
    rw [hu'] at e
    cases e
    exact r
  | T a =>
    obtain ⟨its, rv, q, _⟩ := I.tuple h
    refine ⟨_, _, _, Draws.tuple hh i a ho its.toArray, ⟨st, q⟩, by have := rv.length; simp; omega, fun u v hu hv => ?_, fun j h' q => q.1⟩
    obtain ⟨u', hu', r⟩ := rv.get hv
    have e : its[k]? = some u := by simpa using hu
    rw [hu'] at e
    cases e
    exact r
  | S x =>
    obtain ⟨t, st⟩ := st
    have h : xs = x.cps.toList.map fun c => V.str ⟨#[c]⟩ := h
    subst h
    refine ⟨_, _, _, Draws.text hh i x t, st, by simp, fun u v hu hv => ?_, fun j h' q => ⟨t, q⟩⟩
    obtain ⟨c, tk, hc, rfl⟩ := hu
    rw [List.getElem?_map] at hv
    have hc2 : x.cps.toList[k]? = some c := by simpa using hc
    rw [hc2] at hv
    cases hv
    exact ⟨_, rfl⟩
/-- the cells lie apart -/
structure Zap (z TI TO i1 i2 : Addr) (p q : Zs) : Prop where
  TIz : TI ≠ z
  TOz : TO ≠ z
  TITO : TI ≠ TO
  TIi1 : TI ≠ i1
  TIi2 : TI ≠ i2
  zi1 : z ≠ i1
  zi2 : z ≠ i2
  Ti1 : TO ≠ i1
  Ti2 : TO ≠ i2
  i12 : i1 ≠ i2
  p1 : p.off i1
  p2 : p.off i2
  pz : p.off z
  pT : p.off TO
  q1 : q.off i1
  q2 : q.off i2
  qz : q.off z
  qT : q.off TO
theorem Zap.sep {z TI TO i1 i2 : Addr} {p q : Zs} (D : Zap z TI TO i1 i2 p q) : ZipSep2 z TI TO i1 i2 (p.fp i1) (q.fp i2) where
  TIz := D.TIz
  TOz := D.TOz
  TITO := D.TITO
  TIi1 := D.TIi1
  mem1 := by cases p <;> exact List.mem_cons_self
  zf1 := Zs.mem_fp D.zi1 D.pz
  Tf1 := Zs.mem_fp D.Ti1 D.pT
  TIi2 := D.TIi2
  mem2 := by cases q <;> exact List.mem_cons_self
  zf2 := Zs.mem_fp D.zi2 D.qz
  Tf2 := Zs.mem_fp D.Ti2 D.qT
  sep1_2 := Zs.mem_fp D.i12 D.q1
  sep2_1 := Zs.mem_fp D.i12.symm D.p2
/-- the items of both as they stand at each turn, in new pairs -/
def ItzM (K : PySem.W.Frag) (p q : Zs) : It :=
  ⟨fun i H => ∃ (xs ys : List V), p.has K H xs ∧ q.has K H ys ∧ i < xs.length ∧ i < ys.length,
    fun i H v H' => ∃ T x y, v = .ref T ∧ H T = none ∧ H' = upd H T (.tup [x, y]) ∧ (∀ xs, p.has K H xs → xs[i]? = some x) ∧ ∀ ys, q.has K H ys → ys[i]? = some y,
    fun i H => ∃ xs ys : List V, p.has K H xs ∧ q.has K H ys ∧ i ≤ xs.length ∧ i ≤ ys.length ∧ (i = xs.length ∨ i = ys.length)⟩
theorem turn_zipM {P : Program} {w : World} {K : PySem.W.Frag} {elts : List Expr} {kk : Nat} {tpos : Pos} {z TI TO i1 i2 : Addr} {p' q' : Zs} (D : Zap z TI TO i1 i2 p' q') :
    Turn P w K (.Tuple elts kk tpos) (ItzM K p' q') [z, TI, TO, i1, i2] z (fun i h => IsZip h z TI TO .none ∧ IsTupOf2 h TI (.ref i1) (.ref i2) ∧ (∃ x y, IsTupOf2 h TO x y) ∧ p'.it h i1 i ∧ q'.it h i2 i) where
  mem := by simp
  obj := fun i h st c hc => by
    obtain ⟨hz, hTI, ⟨x, y, hTO⟩, h1, h2⟩ := st
    have e' : c = z ∨ c = TI ∨ c = TO ∨ c = i1 ∨ c = i2 := by simpa using hc
    rcases e' with q | q | q | q | q
    · rw [q]; exact ⟨_, hz, fun v q => nomatch q⟩
    · rw [q]; exact ⟨_, hTI, fun v q => nomatch q⟩
    · rw [q]; exact ⟨_, hTO, fun v q => nomatch q⟩
    · rw [q]; exact Zs.obj (p := p') h1
    · rw [q]; exact Zs.obj (p := q') h2
  keep := fun i h h' st k => by
    obtain ⟨hz, hTI, ⟨x, y, hTO⟩, h1, h2⟩ := st
    exact ⟨k z (by simp) _ hz, k TI (by simp) _ hTI, ⟨x, y, k TO (by simp) _ hTO⟩, Zs.at (p := p') h1 fun o q => k i1 (by simp) o q, Zs.at (p := q') h2 fun o q => k i2 (by simp) o q⟩
  item := by
    intro X hP hw hK hc i pins s σ H E I hf st hg
    subst hP hw hK
    obtain ⟨hz, hTI, ⟨x0, y0, hTO⟩, h1, h2⟩ := st
    obtain ⟨xs, ys, hqx, hqy, hi1, hi2⟩ := hg
    obtain ⟨n1, P1, St1, D1, s1, e1, r1, w1⟩ := Zs.draws hc I hqx h1 D.p1
    obtain ⟨n2, P2, St2, D2, s2, e2, r2, w2⟩ := Zs.draws hc I hqy h2 D.q2
    have hx : xs[i]? = some xs[i] := List.getElem?_eq_getElem hi1
    have hy : ys[i]? = some ys[i] := List.getElem?_eq_getElem hi2
    have hzl : z < s.heap.objs.size := Heap.lt_size hz
    have l1 : i1 < s.heap.objs.size := by obtain ⟨_, e⟩ := D1.live _ _ s1; exact Heap.lt_size e
    have l2 : i2 < s.heap.objs.size := by obtain ⟨_, e⟩ := D2.live _ _ s2; exact Heap.lt_size e
    refine wpAny_pyNext_zipD2_item D.sep D1 D2 hz hTI hTO s1 s2 (by omega) (by omega) fun u u2 h' tk y1 y2 z' TO' h1' h2' hT hsz hk => ?_
    refine ⟨_, rfl, wpAny_letOwnedTupleGo_zip (s := { s with heap := h', toks := tk }) z' fun h'' z'' sb => ?_⟩
    have hT2 : h''.get? s.heap.objs.size = some { cls := .type "tuple", data := .seq #[u, u2] } := (sb.2 _ (Nat.ne_of_gt hzl)).trans hT
    have ru := r1 _ _ y1 hx
    have ru2 := r2 _ _ y2 hy
    have new : ObjOk X.prog X.w (upd H s.heap.objs.size (.tup [xs[i], ys[i]])) h'' s.heap.objs.size (.tup [xs[i], ys[i]]) :=
      ⟨by show 2 ≤ sizeLine; decide, [u, u2], .cons ru (.cons ru2 .nil), ⟨_, hT2, rfl, _, rfl⟩⟩
    have I1 : Inv X pins σ (upd H s.heap.objs.size (.tup [xs[i], ys[i]])) { s with heap := h'', toks := tk } :=
      I.turnedNew (t' := tk) (ch := [z, TI, TO, i1, i2]) (fun c o hb q => (sb.2 c (fun z => hb (by simp [z]))).trans (hk c o (fun z => hb (by simp [z])) (fun z => hb (by simp [z])) (fun z => hb (by simp [z])) (fun z => hb (by simp [z])) q)) hf (Nat.le_refl _) new
    refine ⟨.ref s.heap.objs.size, _, I1, rfl, ⟨_, xs[i], ys[i], rfl, I.hok.fresh (Nat.le_refl _), rfl, fun l hl => by rw [Zs.one rfl I hl hqx]; exact hx, fun l hl => by rw [Zs.one rfl I hl hqy]; exact hy⟩, ⟨z'', ?_, ⟨u, u2, ?_⟩, ?_, ?_⟩, fun c hcm => ?_⟩
    · exact (sb.2 _ D.TIz).trans (hk _ _ D.TIz D.TITO D.TIi1 D.TIi2 hTI)
    · exact (sb.2 _ D.TOz).trans TO'
    · exact Zs.at (w1 _ _ h1') fun o q => (sb.2 _ D.zi1.symm).trans q
    · exact Zs.at (w2 _ _ h2') fun o q => (sb.2 _ D.zi2.symm).trans q
    · have hlt : c < s.heap.objs.size := by
        have e' : c = z ∨ c = TI ∨ c = TO ∨ c = i1 ∨ c = i2 := by simpa using hcm
        rcases e' with q | q | q | q | q
        · rw [q]; exact hzl
        · rw [q]; exact Heap.lt_size hTI
        · rw [q]; exact Heap.lt_size hTO
        · rw [q]; exact l1
        · rw [q]; exact l2
      rw [upd_ne (Nat.ne_of_lt hlt)]
      exact (hf c hcm).1
  done := by
    intro X hP hw hK hc i pins s σ H E I hf st hg
    subst hP hw hK
    obtain ⟨hz, hTI, ⟨x0, y0, hTO⟩, h1, h2⟩ := st
    obtain ⟨xs, ys, hqx, hqy, hi1, hi2, hend⟩ := hg
    obtain ⟨n1, P1, St1, D1, s1, e1, r1, w1⟩ := Zs.draws hc I hqx h1 D.p1
    obtain ⟨n2, P2, St2, D2, s2, e2, r2, w2⟩ := Zs.draws hc I hqy h2 D.q2
    exact wpAny_pyNext_zipD2_end D.sep D1 D2 hz hTI hTO s1 s2 (by omega) (by omega) (by omega) fun h' tk hk => ⟨rfl, I.turnedL (t' := tk) (ch := [z, TI, TO, i1, i2]) (fun c o hb q =>
      hk c o (fun z => hb (by simp [z])) (fun z => hb (by simp [z])) (fun z => hb (by simp [z])) (fun z => hb (by simp [z])) q) hf⟩
  self := fun A i s Q E st h => wpAny_pyIter_zip st.1 h
/-- how such a walk begins -/
theorem Zs.begins {X : Cx} {pins : List (Addr × Obj)} {σ : L2.St} {H : Hp} {s : Shared} {p : Zs} {xs : List V} {u : Value} (I : Inv X pins σ H s) (h : p.has X.K H xs) (r : RelV p.v u) :
    ∃ (o : Obj) (B : Heap → Prop), Begins u o B ∧ B s.heap ∧ (∀ (h' : Heap) i, h'.get? i = some o → p.it h' i 0) ∧ ∀ c, s.heap.objs.size ≤ c → p.off c := by
  cases p with
  | L a =>
    cases r
    obtain ⟨its, rv, q, _⟩ := I.list h
    exact ⟨_, _, begins_list a its.toArray, q.isList, fun h' i e => ⟨_, e, rfl, rfl⟩, fun c hc e => by
      have l := q.lt
      have e : a = c := e
      rw [e] at l
      exact Nat.lt_irrefl _ (Nat.lt_of_lt_of_le l hc)⟩
  | T a =>
    cases r
    obtain ⟨its, rv, q, _⟩ := I.tuple h
    have l : a < s.heap.objs.size := by obtain ⟨_, e, _⟩ := id q; exact Heap.lt_size e
    exact ⟨_, _, begins_tuple a its.toArray, q, fun h' i e => ⟨_, e, rfl, rfl⟩, fun c hc e => by
      have e : a = c := e
      rw [e] at l
      exact Nat.lt_irrefl _ (Nat.lt_of_lt_of_le l hc)⟩
  | S x =>
    obtain ⟨t, rfl⟩ := r
    exact ⟨_, _, begins_text x t, trivial, fun h' i e => ⟨t, _, e, rfl, rfl⟩, fun c hc => trivial⟩
def iZipM (K : PySem.W.Frag) (ta : TA) : TI := fun σ H R => ta σ H fun vs H1 => ∃ (p q : Zs) (xs ys : List V), vs = [p.v, q.v] ∧ p.has K H1 xs ∧ q.has K H1 ys ∧ R (ItzM K p q) H1
theorem pi_zipM {X : Cx} {e e2 : Expr} {ta : TA} {p pos tpos : Pos} {elts : List Expr} {kk : Nat} (hg : Gl X "zip") (hm : X.mg "zip" = none) (ha : PA X [e, e2] ta)
    (hs : starEach [e, e2] X.env = (false, eval e X.env) :: starEach [e2] X.env := by rfl) (hpl : (backTo pos (starEach [e2] X.env)).any (·.1) = false := by rfl) :
    PI X (.Tuple elts kk tpos) (.Call (.Name "zip" p) [e, e2] [] pos) (iZipM X.K ta) := by
  refine ⟨fun pins s σ H R I h => ?_⟩
  refine Call_ (ld_blt I hg hm PyProof.Rows.boot_zip (PyProof.Rows.callWith_type1 (thn (ha.run pos pins s σ H _ I h) fun us s1 ⟨vs, H1, I1, r1, q1⟩ => ?_) hs hpl))
  obtain ⟨a, b, xs, ys, ex, hqx, hqy, q⟩ := q1
  subst ex
  cases r1 with
  | cons r rr =>
    cases rr with
    | cons r' rr =>
      cases rr
      obtain ⟨o1, B1, b1, g1, i1, f1⟩ := Zs.begins I1 hqx r
      obtain ⟨o2, B2, b2, g2, i2, f2⟩ := Zs.begins I1 hqy r'
      refine zip_begins2 b1 b2 g1 g2 fun h' hz hTI hTO h1 h2 hsz hk => wpAny_pyIter_zip hz ?_
      have I2 : Inv X pins σ H1 { s1 with heap := h' } := I1.kept (t' := s1.toks) hk
      refine ⟨s1.heap.objs.size + 4, [s1.heap.objs.size + 4, s1.heap.objs.size + 2, s1.heap.objs.size + 3, s1.heap.objs.size, s1.heap.objs.size + 1], _, _, H1, rfl, I2,
        turn_zipM (p' := a) (q' := b) ⟨(by intro e; have e2 : (_ : Nat) = _ := e; omega), (by intro e; have e2 : (_ : Nat) = _ := e; omega), (by intro e; have e2 : (_ : Nat) = _ := e; omega), (by intro e; have e2 : (_ : Nat) = _ := e; omega), (by intro e; have e2 : (_ : Nat) = _ := e; omega), (by intro e; have e2 : (_ : Nat) = _ := e; omega), (by intro e; have e2 : (_ : Nat) = _ := e; omega), (by intro e; have e2 : (_ : Nat) = _ := e; omega), (by intro e; have e2 : (_ : Nat) = _ := e; omega), (by intro e; have e2 : (_ : Nat) = _ := e; omega), f1 _ (by omega), f1 _ (by omega), f1 _ (by omega), f1 _ (by omega), f2 _ (by omega), f2 _ (by omega), f2 _ (by omega), f2 _ (by omega)⟩,
        ⟨hz, hTI, ⟨_, _, hTO⟩, i1 _ _ h1, i2 _ _ h2⟩, fun c hcm => ?_, q⟩
      have e' : c = s1.heap.objs.size + 4 ∨ c = s1.heap.objs.size + 2 ∨ c = s1.heap.objs.size + 3 ∨ c = s1.heap.objs.size ∨ c = s1.heap.objs.size + 1 := by simpa using hcm
      have hle : s1.heap.objs.size ≤ c := by
        rcases e' with z | z | z | z | z
        · rw [z]; exact Nat.le_add_right _ _
        · rw [z]; exact Nat.le_add_right _ _
        · rw [z]; exact Nat.le_add_right _ _
        · rw [z]; exact Nat.le_refl _
        · rw [z]; exact Nat.le_add_right _ _
      exact I1.fpOk hle (I1.hok.fresh hle)
theorem walk_zipM {K : PySem.W.Frag} {p q : Zs} {xs ys : List V} {n : Nat} (hn : n = min xs.length ys.length) : Walk (ItzM K p q) n (fun H => p.has K H xs ∧ q.has K H ys) (YPair (fun i => xs[i]?) (fun i => ys[i]?)) := by
  subst hn
  refine ⟨fun i _ hi h => ⟨xs, ys, h.1, h.2, by omega, by omega⟩, fun _ h => ⟨xs, ys, h.1, h.2, by omega, by omega, by omega⟩, fun i H v H' _ h y => ?_⟩
  obtain ⟨T, x, z, h1, h2, h3, h4, h5⟩ := y
  exact ⟨T, x, z, h1, h2, h3, h4 xs h.1, h5 ys h.2⟩
end Vf

set_option Elab.async false
set_option linter.all false
set_option maxRecDepth 100000
set_option maxHeartbeats 4000000
namespace Vf
open PySem PySem.Spec PyProof.Rows L2 TL
/-! ### chains judged -/
def xg (xs : List Int) (i : Nat) : Int := xs.getD i 0
theorem xg_at {xs : List Int} {i : Nat} (h : i < xs.length) : (xs.map V.int)[i]? = some (V.int (xg xs i)) := by
  unfold xg
  rw [List.getElem?_map, List.getD_eq_getElem?_getD, List.getElem?_eq_getElem h]; rfl
theorem xg_last {xs : List Int} (h : 0 < xs.length) : atI (xs.map V.int) (-1) = some (V.int (xg xs (xs.length - 1))) := by
  have e := xg_at (xs := xs) (i := xs.length - 1) (by omega)
  have hl : (xs.map V.int).length = xs.length := List.length_map _
  generalize V.int (xg xs (xs.length - 1)) = v at e
  have e2 : xs.map V.int = (xs.map V.int).take (xs.length - 1) ++ [v] := by
    have h3 := List.take_append_drop (xs.length - 1) (xs.map V.int)
    have h4 : (xs.map V.int).drop (xs.length - 1) = [v] := by
      rw [List.drop_eq_getElem_cons (by omega)]
      have h5 := List.getElem?_eq_some_iff.mp e
      rw [h5.2, List.drop_eq_nil_of_le (by omega)]
    rw [h4] at h3
    exact h3.symm
  rw [e2]
  exact atI_last _ _
def totF (f : Int → Int → Option Nat) (xs : List Int) : Nat → Option Nat
  | 0 => some 0
  | k + 1 => match totF f xs k with
    | none => none
    | some t => (f (xg xs k) (xg xs (k + 1))).map (t + ·)
theorem totF_some {f : Int → Int → Option Nat} {xs : List Int} : ∀ {m t : Nat}, totF f xs m = some t → ∀ k, k < m → ∃ e, f (xg xs k) (xg xs (k + 1)) = some e
  | 0, _, _, k, hk => absurd hk (Nat.not_lt_zero _)
  | m + 1, t, h, k, hk => by
    have h : (match totF f xs m with | none => none | some t => (f (xg xs m) (xg xs (m + 1))).map (t + ·)) = some t := h
    cases h1 : totF f xs m with
    | none => rw [h1] at h; cases h
    | some t1 =>
      rw [h1] at h
      have h : (f (xg xs m) (xg xs (m + 1))).map (t1 + ·) = some t := h
      by_cases c : k < m
      · exact totF_some h1 k c
      · have : k = m := by omega
        subst this
        cases h2 : f (xg xs k) (xg xs (k + 1)) with
        | none => rw [h2] at h; cases h
        | some e => exact ⟨e, rfl⟩
theorem totF_congr {f g : Int → Int → Option Nat} {xs : List Int} : ∀ {m : Nat}, (∀ k, k < m → f (xg xs k) (xg xs (k + 1)) = g (xg xs k) (xg xs (k + 1))) → totF f xs m = totF g xs m
  | 0, _ => rfl
  | m + 1, h => by
    show (match totF f xs m with | none => none | some t => (f (xg xs m) (xg xs (m + 1))).map (t + ·)) = (match totF g xs m with | none => none | some t => (g (xg xs m) (xg xs (m + 1))).map (t + ·))
    rw [totF_congr fun k hk => h k (by omega), h m (by omega)]
theorem totF_step {f : Int → Int → Option Nat} {xs : List Int} {m t e : Nat} (h : totF f xs m = some t) (he : f (xg xs m) (xg xs (m + 1)) = some e) : totF f xs (m + 1) = some (t + e) := by
  show (match totF f xs m with | none => none | some t => (f (xg xs m) (xg xs (m + 1))).map (t + ·)) = _
  rw [h, he]; rfl
/-- the chain shows the value -/
def Jd (cs : List Arc) (b v : Int) (xs : List Int) : Prop :=
  0 < xs.length ∧ xg xs 0 = 0 ∧ xg xs (xs.length - 1) = b ∧ (∀ k, k + 1 < xs.length → xg xs k < xg xs (k + 1)) ∧ ∃ t : Nat, totF (demI cs) xs (xs.length - 1) = some t ∧ (t : Int) = v
theorem asc_le {xs : List Int} (h : ∀ k, k + 1 < xs.length → xg xs k < xg xs (k + 1)) {i : Nat} : ∀ d : Nat, i + d < xs.length → xg xs i ≤ xg xs (i + d)
  | 0, _ => Int.le_refl _
  | d + 1, hd => by
    have h1 := asc_le h (i := i) d (by omega)
    have h2 := h (i + d) (by omega)
    have : i + d + 1 = i + (d + 1) := by omega
    rw [this] at h2
    omega
theorem demT_rng {n : Nat} {cs : List Arc} (ok : TabOk n cs) {p q : Int} {e : Nat} (h : demT n cs p q = some e) : 0 ≤ p ∧ p < q ∧ p < (n : Int) := by
  have ⟨h1, _⟩ := mx_spec h
  rcases List.mem_append.mp h1 with m | m
  · by_cases c : q = p + 1 ∧ 0 ≤ p ∧ p < (n : Int)
    · exact ⟨c.2.1, by omega, c.2.2⟩
    · rw [if_neg c] at m; cases m
  · obtain ⟨r, hr, er⟩ := List.mem_filterMap.mp m
    have ⟨a, b⟩ := ok.2.2.2 r hr
    unfold msI at er
    by_cases c : (r.1 : Int) = p ∧ (r.1 : Int) + (r.2.1 : Int) = q
    · omega
    · rw [if_neg c] at er; cases er
/-- in a chain that shows something, each demand is one of the table -/
theorem jd_in {n : Nat} {cs : List Arc} {b v : Int} {xs : List Int} (j : Jd cs b v xs) (hb : b ≤ (n : Int)) {k : Nat} (hk : k + 1 < xs.length) : demT n cs (xg xs k) (xg xs (k + 1)) = demI cs (xg xs k) (xg xs (k + 1)) := by
  obtain ⟨h0, h1, h2, h3, _⟩ := j
  have a1 := asc_le h3 (i := 0) k (by omega)
  have a2 := asc_le h3 (i := k + 1) (xs.length - 1 - (k + 1)) (by omega)
  rw [Nat.zero_add, h1] at a1
  rw [show k + 1 + (xs.length - 1 - (k + 1)) = xs.length - 1 by omega, h2] at a2
  have := h3 k hk
  exact demT_int a1 (by omega)
theorem jd_stop {n : Nat} {cs : List Arc} {b v : Int} {xs : List Int} (hb : b ≤ (n : Int)) {k : Nat} (hk : k + 1 < xs.length) (h : demT n cs (xg xs k) (xg xs (k + 1)) = none) : ¬ Jd cs b v xs := fun j => by
  obtain ⟨_, _, _, _, t, ht, _⟩ := id j
  obtain ⟨e, he⟩ := totF_some ht k (by omega)
  rw [jd_in j hb hk, he] at h
  cases h
theorem jd_end {n : Nat} {cs : List Arc} (ok : TabOk n cs) {b v : Int} {xs : List Int} {t : Nat} (h0 : 0 < xs.length) (h1 : xg xs 0 = 0) (h2 : xg xs (xs.length - 1) = b) (ht : totF (demT n cs) xs (xs.length - 1) = some t) : Jd cs b v xs ↔ (t : Int) = v := by
  have rng : ∀ k, k + 1 < xs.length → 0 ≤ xg xs k ∧ xg xs k < xg xs (k + 1) ∧ xg xs k < (n : Int) := fun k hk => by
    obtain ⟨e, he⟩ := totF_some ht k (by omega)
    exact demT_rng ok he
  have same : totF (demI cs) xs (xs.length - 1) = some t := by
    rw [← ht]
    refine (totF_congr fun k hk => ?_).symm
    have := rng k (by omega)
    exact demT_int this.1 this.2.2
  constructor
  · rintro ⟨_, _, _, _, t', ht', e⟩
    rw [same] at ht'
    rw [Option.some.inj ht']; exact e
  · intro e
    exact ⟨h0, h1, h2, fun k hk => (rng k hk).2.1, t, same, e⟩
def ChainV (H : Hp) (v : V) (xs : List Int) : Prop := ∃ a, v = .ref a ∧ H a = some (.tup (xs.map V.int))
theorem ChainV.mono {H H' : Hp} {v : V} {xs : List Int} (h : ChainV H v xs) (k : ∀ a xs, H a = some (.tup xs) → H' a = some (.tup xs)) : ChainV H' v xs := by
  obtain ⟨a, e, f⟩ := h
  exact ⟨a, e, k _ _ f⟩
section
variable {P : Program} {w : World} {K : PySem.W.Frag} {mg : Str → Option Value} {base : Heap}
def spJudgeC : Sp := fun vs H Q _ => ∃ (cv xv : V) (n : Nat) (cs : List Arc) (b v : Int) (xs : List Int), vs = [nV n, cv, .int b, .int v, xv] ∧ CellsV H cv cs ∧ TabOk n cs ∧ b ≤ (n : Int) ∧ ChainV H xv xs ∧ xs.length ≤ 1000 ∧
  ∀ H' r, Same H H' → (r = true ↔ Jd cs b v xs) → Q (.bl r) H'
theorem ok_judge_chain (T : Txt K mg) : FnOk P w K mg base CX0 2 T.a_judge_chain T.d_judge_chain ["tracks", "cells", "boundary", "value", "chain"] spJudgeC := by
  have G_demands : FnOk P w K mg base CX0 1 T.a_demands T.d_demands ["tracks", "cells"] spDemands := ok_demands T
  refine T.D_judge_chain.F.ok sc_judge_chain (fun vs H Q E h => ?_) (fun cdv A outer s H vs Q E hr h => ?_)
  · obtain ⟨cv, xv, n, cs, b, v, xs, rfl, _⟩ := h
    rfl
  · obtain ⟨cv, xv, n, cs, b, v, xs, rfl, hc, ok, hb, ⟨xa, rfl, ex⟩, hl, q⟩ := h
    refine ⟨_, (pss_cons (ps_if (PW.pt (pw_or (pt_cmpR op_eq (pe_callB call_len_seq (by rfl) T.n_len PySem.boot_len (pa_cons (pv 4) pa_nil)) pe_int (nomark _)) (pw_or (pt_cmpR op_ne (pe_ix ix_tup (pv 4) pe_int (fun _ _ => rfl)) pe_int (nomark _)) (pw_or1 (pt_cmpR op_ne (pe_ix ix_tup (pv 4) (pe_un un_neg pe_int) (fun _ _ => rfl)) (pv 2) (nomark _)))))) (pss_one (ps_ret pe_bl)) pss_nil)
      (pss_cons (ps_set (i := 5) sc_judge_chain.nd rfl (.inl rfl) (pe_call G_demands (hr.mono (by decide)) (by rfl) T.D_demands.G T.D_demands.F.kp T.D_demands.B .nil pass0 (pa_cons (pv 0) (pa_cons (pv 1) pa_nil))))
      (pss_cons (ps_set (i := 6) sc_judge_chain.nd rfl (.inl rfl) pe_int)
      (pss_cons (ps_for PassesOwn.never rfl (pi_zipM (by rfl) T.n_zip (pa_cons (pv 4) (pa_cons (pe_slice sl_tupA (pv 4) (po_some pe_int) po_none) pa_nil))) (pg_tup (by rfl) (pgs_cons (pg_name (i := 7) sc_judge_chain.nd rfl (.inl rfl)) (pgs_cons (pg_name (i := 8) sc_judge_chain.nd rfl (.inl rfl)) pgs_nil))) (pss_cons (ps_if (pt_cmp (pc_dnotin (hu1 hr) (pe_tup (pa_cons (pv 7) (pa_cons (pv 8) pa_nil))) (pv 5))) (pss_one (ps_ret pe_bl)) pss_nil)
      (pss_one (ps_aug (i := 6) sc_judge_chain.nd rfl (.inl rfl) (pe_dget (hu1 hr) (pv 5) (pe_tup (pa_cons (pv 7) (pa_cons (pv 8) pa_nil))) (fun _ _ => rfl)) ip_add))))
      (pss_one (ps_ret (pe_cmpR op_eq (pv 6) (pv 3) (nomark _)))))))), ?_⟩
    have no : ∀ {H' : Hp}, Same H H' → ¬ Jd cs b v xs → Q (.bl false) H' := fun k h => q _ false k ⟨(fun z => by cases z), fun z => absurd z h⟩
    refine ⟨_, rfl, xa, _, rfl, .inr (SqT.of ex), rfl, ?_⟩
    by_cases h0 : 0 < xs.length
    case neg =>
      refine ⟨true, bTr (by rw [List.length_map, show xs.length = 0 by omega]; rfl), no (Same.refl H) fun j => h0 j.1⟩
    refine ⟨false, bFa (fun z => by have := V.int.inj z; rw [List.length_map] at this; omega), ?_⟩
    refine ⟨_, rfl, xa, _, _, _, rfl, rfl, SqT.of ex, atI_nat (xg_at h0), rfl, ?_⟩
    by_cases h1 : xg xs 0 = 0
    case neg => exact ⟨true, bNF (fun z => h1 (V.int.inj z)), no (Same.refl H) fun j => h1 j.2.1⟩
    refine ⟨false, bNT (by rw [h1]), ?_⟩
    refine ⟨_, rfl, 1, rfl, xa, _, -1, _, rfl, rfl, SqT.of ex, xg_last h0, _, rfl, rfl, ?_⟩
    by_cases h2 : xg xs (xs.length - 1) = b
    case neg => exact ⟨true, bNF (fun z => h2 (V.int.inj z)), no (Same.refl H) fun j => h2 j.2.2.1⟩
    refine ⟨false, bNT (by rw [h2]), ?_⟩
    refine ⟨_, rfl, _, rfl, cv, n, cs, rfl, hc, ok, fun H1 D k1 nD dv => ?_⟩
    have ex1 := k1 _ _ ex
    refine ⟨_, rfl, _, rfl, _, rfl, ?_⟩
    refine slA_from ex1 fun bS H2 k2 eS => ?_
    rw [cut_from1, ← List.map_drop] at eS
    have ex2 := k2 _ _ ex1
    have dv2 := dv.keep k2
    have hm : xs.length - 1 = min ((xs.map V.int).length) (((xs.drop 1).map V.int).length) := by rw [List.length_map, List.length_map, List.length_drop]; omega
    refine ⟨.T xa, .T bS, xs.map V.int, (xs.drop 1).map V.int, rfl, SqT.of ex2, SqT.of eS, ?_⟩
    refine for_it (n := xs.length - 1) (walk_zipM (xs := xs.map V.int) (ys := (xs.drop 1).map V.int) hm) (fun i σ' H' => Same H2 H' ∧ ∃ (t : Nat) (x7 x8 : Option V), σ' = [some (nV n), some cv, some (.int b), some (.int v), some (.ref xa), some (.ref D), some (.int (t : Int)), x7, x8] ∧ totF (demT n cs) xs i = some t) ⟨Same.refl H2, 0, none, none, rfl, rfl⟩ ?_ ?_ ?_
    · rintro i σ' H' _ ⟨k, _⟩
      exact ⟨SqT.of (k _ _ ex2), SqT.of (k _ _ eS)⟩
    · rintro i x σ' H3 H4 hi ⟨k3, t, x7, x8, rfl, ht⟩ ⟨Tt, y1, y2, rfl, nT, rfl, g1, g2⟩
      have e1 := xg_at (xs := xs) (i := i) (by omega)
      have g1 := Option.some.inj (e1.symm.trans g1)
      subst g1
      have e2 : ((xs.drop 1).map V.int)[i]? = some (V.int (xg xs (i + 1))) := by
        rw [List.getElem?_map, List.getElem?_drop, ← List.getElem?_map, Nat.add_comm]
        exact xg_at (by omega)
      have g2 := Option.some.inj (e2.symm.trans g2)
      subst g2
      have kT := same_upd (o := .tup [V.int (xg xs i), V.int (xg xs (i + 1))]) (Same.refl H3) nT
      refine ⟨Tt, _, rfl, SqT.of upd_same, rfl, _, _, rfl, _, _, rfl, rfl, ?_⟩
      refine ⟨_, rfl, _, rfl, by show 2 ≤ sizeLine; decide, fun u nu => ?_⟩
      have k4 := same_upd (o := .tup [V.int (xg xs i), V.int (xg xs (i + 1))]) (Same.refl _) nu
      have dv4 := ((dv2.keep k3).keep kT).keep k4
      have gd := dv4.get (p := xg xs i) (q := xg xs (i + 1)) upd_same
      have kA := (k3.trans kT).trans k4
      generalize upd (upd H3 Tt (.tup [V.int (xg xs i), V.int (xg xs (i + 1))])) u (.tup [V.int (xg xs i), V.int (xg xs (i + 1))]) = H5 at gd kA dv4
      refine ⟨_, rfl, D, _, rfl, gd, ?_⟩
      cases hd : demT n cs (xg xs i) (xg xs (i + 1)) with
      | none =>
        exact ⟨_, rfl, no ((k1.trans k2).trans kA) (jd_stop hb (by omega) hd)⟩
      | some e =>
        rw [hd] at gd
        refine ⟨_, rfl, ?_⟩
        refine ⟨_, rfl, _, rfl, _, rfl, _, rfl, by show 2 ≤ sizeLine; decide, fun u2 nu2 => ?_⟩
        have k6 := same_upd (o := .tup [V.int (xg xs i), V.int (xg xs (i + 1))]) (Same.refl H5) nu2
        have ge := (dv4.keep k6).get (p := xg xs i) (q := xg xs (i + 1)) upd_same
        rw [hd] at ge
        refine ⟨D, _, rfl, ge, _, _, rfl, rfl, ?_⟩
        exact ⟨kA.trans k6, t + e, _, _, rfl, totF_step ht hd⟩
    · rintro σ' H3 ⟨k3, t, x7, x8, rfl, ht⟩
      have je := jd_end ok h0 h1 h2 ht (v := v)
      refine ⟨_, rfl, _, rfl, rfl, ?_⟩
      refine q H3 _ ((k1.trans k2).trans k3) ⟨fun z => je.mpr (V.int.inj (of_decide_eq_true z)), fun z => decide_eq_true (by rw [je.mp z])⟩
end
end Vf

set_option Elab.async false
set_option linter.all false
set_option maxRecDepth 100000
set_option maxHeartbeats 4000000
namespace Vf
open PySem PySem.Spec PyProof.Rows L2 TL
/-! ### min of a list of tuples of ints -/
def dI (c : List Int) : PyData := .tuple (c.map .int)
theorem dl_lt (xs ys : List Int) : PySem.W.dataLt (dI xs) (dI ys) = decide (xs < ys) := by
  unfold dI
  rw [PySem.W.dataLt_tuple]
  exact PySem.W.dataLt_ints xs ys
theorem alike_ints : ∀ xs ys : List Int, PySem.W.alikeAll (xs.map .int) (ys.map .int) = true
  | [], ys => by
    cases ys <;> simp [PySem.W.alikeAll]
  | x :: xs, [] => by simp [PySem.W.alikeAll]
  | x :: xs, y :: ys => by
    simp only [List.map_cons, PySem.W.alikeAll, PySem.W.alike, Bool.true_and]
    exact alike_ints xs ys
theorem depth_ints : ∀ xs : List Int, PyData.depthAll (xs.map .int) = 0
  | [] => rfl
  | x :: xs => by
    simp only [List.map_cons, PyData.depthAll, PyData.depth]
    rw [depth_ints xs]; rfl
theorem depth_dI : ∀ cs : List (List Int), PyData.depthAll (cs.map dI) ≤ 1
  | [] => Nat.zero_le _
  | c :: cs => by
    have := depth_dI cs
    simp only [List.map_cons, PyData.depthAll, dI, PyData.depth]
    rw [depth_ints c]
    omega
theorem minD_dI : ∀ (cs : List (List Int)) (c : List Int), PySem.W.minD (dI c) (cs.map dI) = dI (cs.foldl (fun a y => if y < a then y else a) c) := by
  intro cs
  unfold PySem.W.minD
  induction cs with
  | nil => intro c; rfl
  | cons k r ih =>
    intro c
    rw [List.map_cons, List.foldl_cons, List.foldl_cons, ← ih, dl_lt]
    by_cases h : k < c
    · rw [if_pos h, if_pos (decide_eq_true h)]
    · rw [if_neg h, if_neg (by rw [decide_eq_false h]; decide)]
theorem lex_tri : ∀ a b : List Int, a < b ∨ a = b ∨ b < a
  | [], [] => .inr (.inl rfl)
  | [], _ :: _ => .inl .nil
  | _ :: _, [] => .inr (.inr .nil)
  | x :: a, y :: b => by
    rcases Int.lt_trichotomy x y with h | h | h
    · exact .inl (.rel h)
    · subst h
      rcases lex_tri a b with h | h | h
      · exact .inl (.cons h)
      · exact .inr (.inl (by rw [h]))
      · exact .inr (.inr (.cons h))
    · exact .inr (.inr (.rel h))
theorem lex_irr : ∀ {a : List Int}, ¬ a < a
  | [], h => by cases h
  | x :: a, h => by
    cases h with
    | rel h => omega
    | cons h => exact lex_irr h
theorem lex_tr : ∀ {a b c : List Int}, a < b → b < c → a < c
  | [], [], _, h, _ => by cases h
  | [], _ :: _, [], _, h => by cases h
  | [], _ :: _, _ :: _, _, _ => .nil
  | _ :: _, [], _, h, _ => by cases h
  | _ :: _, _ :: _, [], _, h => by cases h
  | x :: a, y :: b, z :: c, h, k => by
    cases h with
    | rel h =>
      cases k with
      | rel k => exact .rel (Int.lt_trans h k)
      | cons k => exact .rel h
    | cons h =>
      cases k with
      | rel k => exact .rel k
      | cons k => exact .cons (lex_tr h k)
theorem foldmin : ∀ (cs : List (List Int)) (c : List Int), ∀ y ∈ c :: cs, ¬ y < cs.foldl (fun a y => if y < a then y else a) c := by
  intro cs
  induction cs with
  | nil =>
    intro c y hy
    rw [List.mem_singleton.mp hy]; exact lex_irr
  | cons z cs ih =>
    intro c y hy
    rw [List.foldl_cons]
    have h := ih (if z < c then z else c)
    have h0 := h _ List.mem_cons_self
    by_cases hz : z < c
    · rw [if_pos hz] at h h0 ⊢
      rcases List.mem_cons.mp hy with e | e
      · subst e
        exact fun k => h0 (lex_tr hz k)
      · exact h y e
    · rw [if_neg hz] at h h0 ⊢
      rcases List.mem_cons.mp hy with e | e
      · rw [e]; exact h0
      · rcases List.mem_cons.mp e with e | e
        · subst e
          intro k
          rcases lex_tri y c with h1 | h1 | h1
          · exact hz h1
          · rw [h1] at k; exact h0 k
          · exact h0 (lex_tr h1 k)
        · exact h y (List.mem_cons_of_mem _ e)
def rMinT (K : PySem.W.Frag) : List V → Hp → VK → Prop := fun vs H Q => ∃ (a : Addr) (us : List V) (cs : List (List Int)), vs = [V.ref a] ∧ SqL K H a us ∧ us.length = cs.length ∧ (∀ (i : Nat) u c, us[i]? = some u → cs[i]? = some c → ∃ p, u = .ref p ∧ SqT K H p (c.map V.int)) ∧ 0 < cs.length ∧
  ∀ (i : Nat) u c, us[i]? = some u → cs[i]? = some c → (∀ y ∈ cs, ¬ y < c) → Q u H
theorem dp_ints {K : PySem.W.Frag} {H : Hp} : ∀ xs : List Int, DpAll K H (xs.map V.int) (xs.map .int)
  | [] => .nil
  | x :: xs => .cons (.int x) (dp_ints xs)
theorem dp_all {K : PySem.W.Frag} {H : Hp} : ∀ {us : List V} {cs : List (List Int)}, us.length = cs.length → (∀ (i : Nat) u c, us[i]? = some u → cs[i]? = some c → ∃ p, u = .ref p ∧ SqT K H p (c.map V.int)) → DpAll K H us (cs.map dI)
  | [], [], _, _ => .nil
  | [], _ :: _, h, _ => by cases h
  | _ :: _, [], h, _ => by cases h
  | u :: us, c :: cs, h, k => by
    obtain ⟨p, rfl, e⟩ := k 0 u c rfl rfl
    exact .cons (.tup e (dp_ints c)) (dp_all (Nat.succ.inj h) fun i u c hu hc => k (i + 1) u c hu hc)
theorem call_minT {X : Cx} (hc : X.calm = true) (hu : X.A.units + 64 < cLine) : CallR X (.builtin "min") (rMinT X.K) := by
  intro pins s σ H vs us' Q I r h
  obtain ⟨a, us, cs, rfl, hs, hl0, hk, hne, q⟩ := h
  obtain ⟨its, rv, hl, _⟩ := I.list hs
  rw [Vals.ref1 r]
  have hd := dp_all hl0 hk
  obtain ⟨as, hr⟩ := Dp.readsAll I _ _ _ hd rv
  cases cs with
  | nil => exact absurd hne (Nat.lt_irrefl 0)
  | cons c cs =>
    have dd := depth_dI (c :: cs)
    refine PySem.W.min_list_data (x := dI c) (xs := cs.map dI) (I.ok.hd hc) hl.isList hr ⟨fun x hx y hy => ?_, fun x hx => ?_⟩ ?_ fun i v h' tk bs hi rd hkp => ?_
    · obtain ⟨x, _, rfl⟩ := List.mem_map.mp (show x ∈ (c :: cs).map dI from hx)
      obtain ⟨y, _, rfl⟩ := List.mem_map.mp (show y ∈ (c :: cs).map dI from hy)
      simp only [dI, PySem.W.alike]
      exact alike_ints x y
    · obtain ⟨x, _, rfl⟩ := List.mem_map.mp (show x ∈ (c :: cs).map dI from hx)
      intro z; cases z
    · have e : PyData.depthAll (dI c :: cs.map dI) = PyData.depthAll ((c :: cs).map dI) := rfl
      rw [e]; omega
    · have hlen := rv.length
      have hi2 : i < its.length := by
        have := (Array.getElem?_eq_some_iff.mp hi).1
        simpa using this
      have gu : us[i]? = some us[i] := List.getElem?_eq_getElem (by omega)
      have gc : (c :: cs)[i]? = some (c :: cs)[i] := List.getElem?_eq_getElem (by omega)
      obtain ⟨v2, e2, r2⟩ := Vals.get rv gu
      have ev : v2 = v := by
        have h1 : its[i]? = some v := by simpa using hi
        rw [e2] at h1
        exact Option.some.inj h1
      subst ev
      obtain ⟨bs2, rd2, _, _, _⟩ := PySem.W.readsAll_at hr i v2 (by simpa using hi)
      have eg : ((c :: cs).map dI).getD i .none = dI (c :: cs)[i] := by
        have : ((c :: cs).map dI)[i]? = some (dI (c :: cs)[i]) := by rw [List.getElem?_map, gc]; rfl
        rw [List.getD_eq_getElem?_getD, this]; rfl
      rw [eg] at rd2
      have eu := (Reads.unique (PySem.W.reads_keeps hkp rd2) _ _ rd).1
      rw [minD_dI] at eu
      have em : (c :: cs)[i] = cs.foldl (fun a y => if y < a then y else a) c := by
        have h1 := PyData.tuple.inj eu
        exact List.map_inj_right (fun a b h => PyData.int.inj h) |>.mp h1
      refine ⟨us[i], H, I.kept hkp, r2, q i _ _ gu gc fun y hy => ?_⟩
      rw [em]
      exact foldmin cs c y hy
end Vf

set_option Elab.async false
set_option linter.all false
set_option maxRecDepth 100000
set_option maxHeartbeats 4000000
namespace Vf
open PySem PySem.Spec PyProof.Rows L2 TL
/-! ### chains of a table, the rests, the least of the best -/
inductive Ch (cs : List Arc) : Nat → List Nat → Nat → Nat → Prop
  | nil (a : Nat) : Ch cs a [] a 0
  | cons {a j b e s : Nat} {xs : List Nat} (h : a < j) (d : dem cs a j = some e) (c : Ch cs j xs b s) : Ch cs a (j :: xs) b (e + s)
theorem Ch.le {cs : List Arc} {a b s : Nat} {xs : List Nat} (h : Ch cs a xs b s) : a ≤ b := by
  induction h with
  | nil => exact Nat.le_refl _
  | cons h _ _ ih => omega
theorem Ch.self {cs : List Arc} {b s : Nat} {xs : List Nat} (h : Ch cs b xs b s) : xs = [] ∧ s = 0 := by
  cases h with
  | nil => exact ⟨rfl, rfl⟩
  | cons h _ c => have := c.le; omega
theorem Ch.snoc {cs : List Arc} {a j b s e : Nat} {xs : List Nat} (h : Ch cs a xs j s) (hj : j < b) (d : dem cs j b = some e) : Ch cs a (xs ++ [b]) b (s + e) := by
  induction h with
  | nil a =>
    have := Ch.cons hj d (Ch.nil b)
    rw [Nat.add_zero] at this
    rw [Nat.zero_add]; exact this
  | cons h1 d1 c ih => rw [Nat.add_assoc]; exact Ch.cons h1 d1 (ih hj d)
theorem Ch.unsnoc {cs : List Arc} {a b s : Nat} {xs : List Nat} (h : Ch cs a xs b s) : a < b → ∃ ys j s' e, xs = ys ++ [b] ∧ Ch cs a ys j s' ∧ j < b ∧ dem cs j b = some e ∧ s = s' + e := by
  induction h with
  | nil a => intro h; omega
  | @cons a j b e s xs h d c ih =>
    intro _
    by_cases hj : j < b
    · obtain ⟨ys, k, s', e', rfl, h1, h2, h3, rfl⟩ := ih hj
      exact ⟨j :: ys, k, e + s', e', rfl, Ch.cons h d h1, h2, h3, by omega⟩
    · have ej : j = b := by have := c.le; omega
      subst ej
      obtain ⟨rfl, rfl⟩ := c.self
      exact ⟨[], a, 0, e, rfl, Ch.nil a, h, d, by omega⟩
theorem Ch.len {cs : List Arc} {a b s : Nat} {xs : List Nat} (h : Ch cs a xs b s) : a + xs.length ≤ b := by
  induction h with
  | nil => exact Nat.le_refl _
  | cons h _ _ ih => rw [List.length_cons]; omega
theorem Ch.ex (cs : List Arc) (b : Nat) : ∀ k a, a + k = b → ∃ xs s, Ch cs a xs b s
  | 0, a, h => by
    have : a = b := h
    subst this
    exact ⟨[], 0, Ch.nil a⟩
  | k + 1, a, h => by
    obtain ⟨e, he⟩ := dem_next cs a
    obtain ⟨xs, s, c⟩ := Ch.ex cs b k (a + 1) (by omega)
    exact ⟨_, _, Ch.cons (Nat.lt_succ_self a) he c⟩
theorem Ch.same {cs cs' : List Arc} (m : ∀ r, r ∈ cs ↔ r ∈ cs') {a b s : Nat} {xs : List Nat} (h : Ch cs a xs b s) : Ch cs' a xs b s := by
  induction h with
  | nil a => exact Ch.nil a
  | cons h d _ ih => exact Ch.cons h (by rw [← dem_same m]; exact d) ih
/-- v is the largest sum of a chain from a to b -/
def RM (cs : List Arc) (b a v : Nat) : Prop := (∃ xs, Ch cs a xs b v) ∧ ∀ xs s, Ch cs a xs b s → s ≤ v
theorem rm_self (cs : List Arc) (b : Nat) : RM cs b b 0 := ⟨⟨[], Ch.nil b⟩, fun xs s h => by rw [h.self.2]; exact Nat.le_refl 0⟩
theorem RM.uniq {cs : List Arc} {b a v w : Nat} (h : RM cs b a v) (k : RM cs b a w) : v = w := by
  obtain ⟨x, hx⟩ := h.1
  obtain ⟨y, hy⟩ := k.1
  have := h.2 _ _ hy
  have := k.2 _ _ hx
  omega
theorem rm_step {cs : List Arc} {b a m : Nat} {R : Nat → Nat} (hab : a < b) (hR : ∀ j, a < j → j ≤ b → RM cs b j (R j))
    (h1 : ∃ j e, a < j ∧ j ≤ b ∧ dem cs a j = some e ∧ m = e + R j) (h2 : ∀ j e, a < j → j ≤ b → dem cs a j = some e → e + R j ≤ m) : RM cs b a m := by
  obtain ⟨j, e, j1, j2, d, rfl⟩ := h1
  obtain ⟨xs, hx⟩ := (hR j j1 j2).1
  refine ⟨⟨_, Ch.cons j1 d hx⟩, fun ys s hy => ?_⟩
  cases hy with
  | nil => omega
  | @cons _ i _ e' s' zs hi di ci =>
    have hib := ci.le
    have h3 := (hR i hi hib).2 _ _ ci
    have h4 := h2 i e' hi hib di
    omega
def SD (pre xs : List Nat) : Prop := ∃ p u v r r', pre = p ++ u :: r ∧ xs = p ++ v :: r' ∧ u < v
theorem SD.app {pre xs : List Nat} (h : SD pre xs) (z : List Nat) : SD (pre ++ z) xs := by
  obtain ⟨p, u, v, r, r', rfl, rfl, l⟩ := h
  exact ⟨p, u, v, r ++ z, r', by rw [List.append_assoc]; rfl, rfl, l⟩
theorem SD.lt {pre xs : List Nat} (h : SD pre xs) : pre.map (fun x : Nat => (x : Int)) < xs.map (fun x : Nat => (x : Int)) := by
  obtain ⟨p, u, v, r, r', rfl, rfl, l⟩ := h
  rw [List.map_append, List.map_append, List.map_cons, List.map_cons]
  generalize p.map (fun x : Nat => (x : Int)) = q
  induction q with
  | nil => exact List.Lex.rel (by show (u : Int) < (v : Int); omega)
  | cons z q ih => exact List.Lex.cons ih
/-- the greedy chain so far -/
def GI (cs : List Arc) (b : Nat) (R : Nat → Nat) (pre : List Nat) (a : Nat) : Prop := ∃ s0, Ch cs 0 pre a s0 ∧ s0 + R a = R 0 ∧ ∀ xs, Ch cs 0 xs b (R 0) → (∃ zs, xs = pre ++ zs ∧ Ch cs a zs b (R a)) ∨ SD pre xs
theorem gi_start (cs : List Arc) (b : Nat) (R : Nat → Nat) : GI cs b R [] 0 := ⟨0, Ch.nil 0, Nat.zero_add _, fun xs h => .inl ⟨xs, rfl, h⟩⟩
theorem gi_next {cs : List Arc} {b a : Nat} {R : Nat → Nat} (hab : a < b) (hR : ∀ j, j ≤ b → RM cs b j (R j)) : ∃ j e, a < j ∧ j ≤ b ∧ dem cs a j = some e ∧ R a ≤ e + R j := by
  obtain ⟨xs, h⟩ := (hR a (by omega)).1
  generalize hv : R a = v at h
  cases h with
  | nil => omega
  | @cons _ j _ e s zs hj d c =>
    have := (hR j c.le).2 _ _ c
    exact ⟨j, e, hj, c.le, d, by omega⟩
theorem gi_step {cs : List Arc} {b a j e : Nat} {R : Nat → Nat} {pre : List Nat} (g : GI cs b R pre a) (hab : a < b) (hR : ∀ j, j ≤ b → RM cs b j (R j))
    (hj : a < j) (hjb : j ≤ b) (d : dem cs a j = some e) (hge : R a ≤ e + R j) (low : ∀ i e', a < i → i < j → dem cs a i = some e' → e' + R i < R a) : GI cs b R (pre ++ [j]) j := by
  obtain ⟨s0, c0, es, hx⟩ := g
  obtain ⟨ys, hy⟩ := (hR j hjb).1
  have h1 := (hR a (by omega)).2 _ _ (Ch.cons hj d hy)
  refine ⟨s0 + e, c0.snoc hj d, by omega, fun xs h => ?_⟩
  rcases hx xs h with ⟨zs, rfl, cz⟩ | h
  · generalize hv : R a = v at cz
    cases cz with
    | nil => omega
    | @cons _ i _ e' s' zs' hi di ci =>
      have h3 := (hR i ci.le).2 _ _ ci
      rcases Nat.lt_trichotomy i j with h4 | h4 | h4
      · have := low i e' hi h4 di
        omega
      · subst h4
        rw [d] at di
        have := Option.some.inj di
        subst this
        have es2 : s' = R i := by omega
        subst es2
        exact .inl ⟨zs', by rw [List.append_assoc]; rfl, ci⟩
      · exact .inr ⟨pre, j, i, [], zs', rfl, rfl, h4⟩
  · exact .inr (h.app [j])
theorem gi_end {cs : List Arc} {b : Nat} {R : Nat → Nat} {pre : List Nat} (g : GI cs b R pre b) (hb : R b = 0) : Ch cs 0 pre b (R 0) ∧ ∀ xs, Ch cs 0 xs b (R 0) → xs = pre ∨ SD pre xs := by
  obtain ⟨s0, c0, es, hx⟩ := g
  have e : s0 = R 0 := by omega
  subst e
  refine ⟨c0, fun xs h => ?_⟩
  rcases hx xs h with ⟨zs, rfl, cz⟩ | h
  · left; rw [cz.self.1, List.append_nil]
  · exact .inr h
end Vf

set_option Elab.async false
set_option linter.all false
set_option maxRecDepth 100000
set_option maxHeartbeats 4000000
namespace Vf
open PySem PySem.Spec PyProof.Rows L2 TL
/-! ### the least of the best chains -/
def PairE (H : Hp) (x : V) (r : Nat × List Nat) : Prop := ∃ b p, x = .ref b ∧ H b = some (.tup [nV r.1, .ref p]) ∧ H p = some (.tup (r.2.map nV))
theorem PairE.mono {H H' : Hp} {x : V} {r : Nat × List Nat} (h : PairE H x r) (k : ∀ a xs, H a = some (.tup xs) → H' a = some (.tup xs)) : PairE H' x r := by
  obtain ⟨b, p, e, h1, h2⟩ := h
  exact ⟨b, p, e, k _ _ h1, k _ _ h2⟩
section
variable {P : Program} {w : World} {K : PySem.W.Frag} {mg : Str → Option Value} {base : Heap}
def iL (c : List Nat) : List Int := c.map fun x : Nat => (x : Int)
theorem nv_int (c : List Nat) : c.map nV = (iL c).map V.int := by
  unfold iL; rw [List.map_map]; rfl
end
end Vf

set_option Elab.async false
set_option linter.all false
set_option maxRecDepth 100000
set_option maxHeartbeats 4000000
namespace Vf
open PySem PySem.Spec PyProof.Rows L2 TL
/-! ### chain_of -/
def RsD (H : Hp) (S : Addr) (R : Nat → Nat) (lo b N : Nat) : Prop := ∃ kvs : List (Key × V), H S = some (.dK kvs) ∧ kvs.length ≤ N ∧ ∀ j, lo ≤ j → j ≤ b → valV kvs (Sum.inl (j : Int)) = some (nV (R j))
theorem RsD.keep {H H' : Hp} {S : Addr} {R : Nat → Nat} {lo b N : Nat} (h : RsD H S R lo b N) (k : Same H H') : RsD H' S R lo b N := by
  obtain ⟨kvs, e, r⟩ := h
  exact ⟨kvs, k _ _ e, r⟩
theorem RsD.get {H : Hp} {S : Addr} {R : Nat → Nat} {lo b N j : Nat} (h : RsD H S R lo b N) (h1 : lo ≤ j) (h2 : j ≤ b) : DGet H S (nV j) (some (nV (R j))) := by
  obtain ⟨kvs, e, _, g⟩ := h
  rw [← g j h1 h2]
  exact DGet.k (k := Sum.inl (j : Int)) e
theorem RsD.other {H : Hp} {S a : Addr} {o : HO} {R : Nat → Nat} {lo b N : Nat} (h : RsD H S R lo b N) (n : S ≠ a) : RsD (upd H a o) S R lo b N := by
  obtain ⟨kvs, e, r⟩ := h
  exact ⟨kvs, by rw [upd_ne n]; exact e, r⟩
def cnd (cs : List Arc) (R : Nat → Nat) (a : Nat) : Nat → Option Nat := fun k => (dem cs a (a + 1 + k)).map fun e => e + R (a + 1 + k)
section
variable {P : Program} {w : World} {K : PySem.W.Frag} {mg : Str → Option Value} {base : Heap}
def spChainOf : Sp := fun vs H Q _ => ∃ (v : V) (n b : Nat) (cs : List Arc), vs = [nV n, v, nV b] ∧ CellsV H v cs ∧ TabOk n cs ∧ b ≤ n ∧
  ∀ H' p pre top, Same H H' → H' p = some (.tup ((0 :: pre).map nV)) → RM cs b 0 top → Ch cs 0 pre b top → (∀ xs, Ch cs 0 xs b top → xs = pre ∨ SD pre xs) → Q (.ref p) H'
theorem ok_chain_of (T : Txt K mg) : FnOk P w K mg base CX0 2 T.a_chain_of T.d_chain_of ["tracks", "cells", "boundary"] spChainOf := by
  have G_demands : FnOk P w K mg base CX0 1 T.a_demands T.d_demands ["tracks", "cells"] spDemands := ok_demands T
  refine T.D_chain_of.F.ok sc_chain_of (fun vs H Q E h => ?_) (fun cdv A outer s H vs Q E hr h => ?_)
  · obtain ⟨v, n, b, cs, rfl, _⟩ := h
    rfl
  · obtain ⟨v, n, b, cs, rfl, hc, ok, hbn, q⟩ := h
    refine ⟨_, (pss_cons (ps_set (i := 3) sc_chain_of.nd rfl (.inr rfl) (pe_call G_demands (hr.mono (by decide)) (by rfl) T.D_demands.G T.D_demands.F.kp T.D_demands.B .nil pass0 (pa_cons (pv 0) (pa_cons (pv 1) pa_nil))))
      (pss_cons (ps_set (i := 4) sc_chain_of.nd rfl (.inr rfl) (pe_disp (pps_cons (pv 2) pe_int pps_nil) rfl rfl (by simp) (by decide)))
      (pss_cons (ps_for PassesOwn.never rfl (pi_revR (by rfl) T.n_reversed (prg_1 (by rfl) T.n_range (pv 2))) (pg_name (i := 5) sc_chain_of.nd rfl (.inr rfl)) (pss_one (ps_dput (hu1 hr) (pv 4) (pv 5) (pe_callB (cr_max (by rfl)) (by rfl) T.n_max (by decide +kernel) (pa_cons (pe_lc (own := [("behind", 7)]) (g := gName 7) rfl sc_chain_of.nd (pi_range2 (by rfl) T.n_range (pa_cons (pe_op op_add (pv 5) pe_int) (pa_cons (pe_op op_add (pv 2) pe_int) pa_nil))) (blkOk_by (own := [("behind", 7)]) (N := ["tracks", "cells", "boundary", "demands", "rests", "ahead", "chain", "behind"]) (sc := (defScope s_chain_of)) (by decide +kernel)) (fun _ _ _ _ _ => (pg_name (i := 7) sc_chain_of.nd rfl (.inl rfl))) (fun _ _ _ _ _ => (pts_one (pt_cmp (pc_din (hu1 hr) (pe_tup (pa_cons (pv 5) (pa_cons (pv 7) pa_nil))) (pv 3))))) (fun _ _ _ _ _ => (pe_op op_add (pe_dget (hu1 hr) (pv 3) (pe_tup (pa_cons (pv 5) (pa_cons (pv 7) pa_nil))) (fun _ _ => rfl)) (pe_dget (hu1 hr) (pv 4) (pv 7) (fun _ _ => rfl))))) pa_nil)) rfl)))
      (pss_cons (ps_set (i := 6) sc_chain_of.nd rfl (.inl rfl) (pe_lst (pa_cons pe_int pa_nil)))
      (pss_cons (ps_while PassesOwn.never (pt_cmpR op_ne (pe_ix ix_list (pv 6) (pe_un un_neg pe_int) (fun _ _ => rfl)) (pv 2) (nomark _)) (pss_cons (ps_set (i := 5) sc_chain_of.nd rfl (.inr rfl) (pe_ix ix_list (pv 6) (pe_un un_neg pe_int) (fun _ _ => rfl)))
      (pss_cons (ps_set (i := 7) sc_chain_of.nd rfl (.inl rfl) (pe_op op_add (pv 5) pe_int))
      (pss_cons (ps_while PassesOwn.never (PW.pt (pw_or (pt_cmp (pc_dnotin (hu1 hr) (pe_tup (pa_cons (pv 5) (pa_cons (pv 7) pa_nil))) (pv 3))) (pw_or1 (pt_cmpR op_lt (pe_op op_add (pe_dget (hu1 hr) (pv 3) (pe_tup (pa_cons (pv 5) (pa_cons (pv 7) pa_nil))) (fun _ _ => rfl)) (pe_dget (hu1 hr) (pv 4) (pv 7) (fun _ _ => rfl))) (pe_dget (hu1 hr) (pv 4) (pv 5) (fun _ _ => rfl)) (nomark _))))) (pss_one (ps_aug (i := 7) sc_chain_of.nd rfl (.inl rfl) pe_int ip_add)))
      (pss_one (ps_expr (pe_bm PySem.F.plainAttrs_list PySem.F.slot_list_append PySem.F.type_list_append mt_append (pv 6) (pa_cons (pv 7) pa_nil))))))))
      (pss_one (ps_ret (pe_callTy call_tuple_of (by rfl) T.n_tuple (by decide +kernel) (pa_cons (pv 6) pa_nil))))))))), ?_⟩
    refine ⟨_, rfl, _, rfl, v, n, cs, rfl, hc, ok, fun H1 D k1 nD dv => ?_⟩
    obtain ⟨n1, n2, n3, n4⟩ := ok
    refine fun S nS => ?_
    refine ⟨_, rfl, ?_⟩
    have nDS : D ≠ S := by
      obtain ⟨kvs, h1, _⟩ := dv
      exact ne_of_none h1 nS
    have eS0 : upd H1 S (.dK []) S = some (.dK []) := upd_same
    have kS := same_mut (o := .dK (mergeK [] [(Sum.inl (b : Int), nV 0)])) (same_upd (o := .dK []) (Same.refl H1) nS) nS
    have dvS := dv.keep kS
    have kHS := k1.trans kS
    have nSH : H S = none := by
      cases e : H S with
      | none => rfl
      | some o => rw [k1 _ _ e] at nS; cases nS
    have hS : RsD (upd (upd H1 S (.dK [])) S (.dK (mergeK [] [(Sum.inl (b : Int), nV 0)]))) S (fun _ => 0) b b 1 := ⟨_, upd_same, Nat.le_refl 1, fun j h1 h2 => by
      have : j = b := by omega
      subst this
      show valV (putK [] (Sum.inl (j : Int)) (nV 0)) _ = _
      rw [valV_put, if_pos rfl]⟩
    refine ⟨eS0, [(Sum.inl (b : Int), nV 0)], rfl, (show 1 ≤ 15 by decide), ?_⟩
    generalize upd (upd H1 S (.dK [])) S (.dK (mergeK [] [(Sum.inl (b : Int), nV 0)])) = H2 at hS dvS kHS
    refine ⟨_, rfl, (b : Int), rfl, by decide, by decide, by omega, by omega, ?_⟩
    have eb : ((b : Int) - 0).toNat = b := by omega
    rw [eb]
    refine for_rangeC (fun i σ' H' => ∃ (R : Nat → Nat) (x5 x7 : Option V), σ' = [some (nV n), some v, some (nV b), some (.ref D), some (.ref S), x5, none, x7] ∧ Same H H' ∧ DemV H' D 2000 (demT n cs) ∧ RsD H' S R (b - i) b (i + 1) ∧ ∀ j, b - i ≤ j → j ≤ b → RM cs b j (R j)) ⟨fun _ => 0, none, none, rfl, kHS, dvS, hS, fun j h1 h2 => by
      have : j = b := by omega
      subst this
      exact rm_self cs j⟩ ?_ ?_
    · rintro i σ' H3 hi ⟨R, x5, x7, rfl, k3, dv3, rs3, hR⟩
      obtain ⟨a, ea⟩ : ∃ a, a = b - 1 - i := ⟨_, rfl⟩
      have ex : V.int ((0 : Int) + ((b : Nat) : Int) - 1 + ((i : Nat) : Int) * (-1)) = nV a := by
        show V.int _ = V.int (a : Int)
        congr 1; omega
      rw [ex]
      have hab : a < b := by omega
      refine ⟨_, rfl, _, _, rfl, rfl, _, rfl, _, _, rfl, rfl, _, _, rfl, ⟨by omega, by omega, by omega, by omega⟩, ?_⟩
      rw [show (((b : Nat) : Int) + 1 - (((a : Nat) : Int) + 1)).toNat = b - a by omega]
      refine fun C nC => lc_range (lo := ((a : Nat) : Int) + 1) (n := b - a) (fun k H' => Same H3 H' ∧ H' C = some (.lst (((List.range k).filterMap (cnd cs R a)).map nV)) ∧ ((List.range k).filterMap (cnd cs R a)).length ≤ k) ⟨same_upd (Same.refl H3) nC, upd_same, Nat.le_refl _⟩ (fun k H4 hk p => ⟨rfl, ?_⟩) (fun H4 p => ?_)
      · obtain ⟨k4, eC, lC⟩ := p
        have ej : V.int ((((a : Nat) : Int) + 1) + (k : Int)) = nV (a + 1 + k) := by
          show V.int _ = V.int ((a + 1 + k : Nat) : Int)
          congr 1
        rw [ej]
        have eD : demT n cs (a : Int) ((a + 1 + k : Nat) : Int) = dem cs a (a + 1 + k) := demT_eq (by omega)
        have rs : (List.range (k + 1)).filterMap (cnd cs R a) = (List.range k).filterMap (cnd cs R a) ++ (cnd cs R a k).toList := by
          rw [List.range_succ, List.filterMap_append]
          cases h : cnd cs R a k with
          | none => rw [List.filterMap_cons_none h]; rfl
          | some x => rw [List.filterMap_cons_some h]; rfl
        refine ⟨_, rfl, _, rfl, by show 2 ≤ sizeLine; decide, fun t nt => ?_⟩
        have k5 := same_upd (o := .tup [nV a, nV (a + 1 + k)]) (Same.refl H4) nt
        have et : upd H4 t (.tup [nV a, nV (a + 1 + k)]) t = some (.tup [nV a, nV (a + 1 + k)]) := upd_same
        have dv5 := (dv3.keep k4).keep k5
        have g1 := dv5.get et
        rw [eD] at g1
        generalize upd H4 t (.tup [nV a, nV (a + 1 + k)]) = H5 at k5 dv5 g1
        cases hd : dem cs a (a + 1 + k) with
        | none =>
          rw [hd] at g1
          have ec : cnd cs R a k = none := by unfold cnd; rw [hd]; rfl
          refine ⟨_, rfl, D, _, rfl, g1, _, rfl, k4.trans k5, ?_, ?_⟩
          · rw [rs, ec]; show _ = some (HO.lst ((_ ++ []).map nV)); rw [List.append_nil]; exact k5 _ _ eC
          · rw [rs, ec]; show (_ ++ []).length ≤ _; rw [List.append_nil]; omega
        | some e =>
          rw [hd] at g1
          have ec : cnd cs R a k = some (e + R (a + 1 + k)) := by unfold cnd; rw [hd]; rfl
          refine ⟨_, rfl, D, _, rfl, g1, _, rfl, ?_⟩
          have ka := k4.trans k5
          refine ⟨_, rfl, _, rfl, _, rfl, by show 2 ≤ sizeLine; decide, fun u nu => ?_⟩
          have k6 := same_upd (o := .tup [nV a, nV (a + 1 + k)]) (Same.refl H5) nu
          have eu : upd H5 u (.tup [nV a, nV (a + 1 + k)]) u = some (.tup [nV a, nV (a + 1 + k)]) := upd_same
          have g2 := (dv5.keep k6).get eu
          rw [eD, hd] at g2
          generalize upd H5 u (.tup [nV a, nV (a + 1 + k)]) = H6 at k6 g2
          have kb := ka.trans k6
          have g3 := (rs3.keep kb).get (j := a + 1 + k) (by omega) (by omega)
          refine ⟨D, _, rfl, g2, _, rfl, _, rfl, S, _, rfl, g3, _, _, rfl, rfl, ?_⟩
          refine ⟨_, k6 _ _ (k5 _ _ eC), by rw [List.length_map]; exact szN (by omega), same_mut kb nC, ?_, ?_⟩
          · rw [upd_same, rs, ec, List.map_append]; rfl
          · rw [rs, ec, List.length_append]; show _ + 1 ≤ _; omega
      · obtain ⟨k4, eC, lC⟩ := p
        have hmem : ∀ x, x ∈ (List.range (b - a)).filterMap (cnd cs R a) ↔ ∃ j e, a < j ∧ j ≤ b ∧ dem cs a j = some e ∧ x = e + R j := fun x => by
          rw [List.mem_filterMap]
          constructor
          · rintro ⟨k, hk, h⟩
            have hk := List.mem_range.mp hk
            unfold cnd at h
            cases hd : dem cs a (a + 1 + k) with
            | none => rw [hd] at h; cases h
            | some e =>
              rw [hd] at h
              exact ⟨a + 1 + k, e, by omega, by omega, hd, (Option.some.inj h).symm⟩
          · rintro ⟨j, e, h1, h2, h3, rfl⟩
            refine ⟨j - a - 1, List.mem_range.mpr (by omega), ?_⟩
            unfold cnd
            rw [show a + 1 + (j - a - 1) = j by omega, h3]; rfl
        obtain ⟨e1, he1⟩ := dem_next cs a
        have hm1 := (hmem _).mpr ⟨a + 1, e1, Nat.lt_succ_self a, by omega, he1, rfl⟩
        generalize (List.range (b - a)).filterMap (cnd cs R a) = ns at eC hmem hm1 lC
        refine ⟨C, ns.map (fun x : Nat => (x : Int)), rfl, SqL.of (by rw [eC, List.map_map]; rfl), by rw [List.length_map]; exact List.length_pos_of_mem hm1, fun m hm hM => ?_⟩
        obtain ⟨m, hm2, rfl⟩ := List.mem_map.mp hm
        have hM : ∀ y ∈ ns, y ≤ m := fun y hy => by
          have := hM _ (List.mem_map.mpr ⟨y, hy, rfl⟩)
          omega
        have rm : RM cs b a m := rm_step hab (R := R) (fun j h1 h2 => hR j (by omega) h2) ((hmem m).mp hm2) (fun j e h1 h2 h3 => hM _ ((hmem _).mpr ⟨j, e, h1, h2, h3, rfl⟩))
        obtain ⟨kvs, eK, lk, gk⟩ := rs3.keep k4
        refine ⟨_, rfl, _, rfl, S, _, rfl, DPut.k (k := Sum.inl ((a : Nat) : Int)) eK (szN (by omega)), ?_⟩
        refine ⟨fun j => if j = a then m else R j, _, _, rfl, same_mut (k3.trans k4) nSH, (dv3.keep k4).other nDS, ⟨_, upd_same, Nat.le_trans (length_putK _ _ _) (by omega), fun j h1 h2 => ?_⟩, fun j h1 h2 => ?_⟩
        · rw [valV_put]
          by_cases c : j = a
          · subst c
            rw [if_pos rfl]
            show some (V.int (m : Int)) = some (nV (if j = j then m else R j))
            rw [if_pos rfl]; rfl
          · rw [if_neg (fun (z : (Sum.inl ((j : Nat) : Int) : Key) = Sum.inl ((a : Nat) : Int)) => c (Int.ofNat.inj (Sum.inl.inj z)))]
            show _ = some (nV (if j = a then m else R j))
            rw [if_neg c]
            exact gk j (by omega) h2
        · by_cases c : j = a
          · subst c
            show RM cs b j (if j = j then m else R j)
            rw [if_pos rfl]; exact rm
          · show RM cs b j (if j = a then m else R j)
            rw [if_neg c]
            exact hR j (by omega) h2
    · rintro σ' H3 ⟨R, x5, x7, rfl, k3, dv3, rs3, hR⟩
      have hR : ∀ j, j ≤ b → RM cs b j (R j) := fun j hj => hR j (by omega) hj
      rw [Nat.sub_self] at rs3
      have hRb : R b = 0 := (hR b (Nat.le_refl b)).uniq (rm_self cs b)
      refine ⟨by show 1 ≤ sizeLine; decide, fun L nL => ?_⟩
      have kL := same_upd (o := .lst [V.int 0]) (Same.refl H3) nL
      have eL : upd H3 L (.lst [V.int 0]) L = some (.lst ((0 :: ([] : List Nat)).map nV)) := upd_same
      have nLH : H L = none := by
        cases e : H L with
        | none => rfl
        | some o => rw [k3 _ _ e] at nL; cases nL
      have nDL : D ≠ L := by
        obtain ⟨kvs, h1, _⟩ := dv3
        exact ne_of_none h1 nL
      have nSL : S ≠ L := by
        obtain ⟨kvs, h1, _⟩ := rs3
        exact ne_of_none h1 nL
      refine ⟨fun m σ H' => ∃ (pre : List Nat) (a : Nat) (x5 x7 : Option V), m = b - a ∧ a ≤ b ∧ σ = [some (nV n), some v, some (nV b), some (.ref D), some (.ref S), x5, some (.ref L), x7] ∧ Same H H' ∧ DemV H' D 2000 (demT n cs) ∧ RsD H' S R 0 b (b + 1) ∧ H' L = some (.lst ((0 :: pre).map nV)) ∧ GI cs b R pre a ∧ (∃ ys, 0 :: pre = ys ++ [a]) ∧ pre.length ≤ a,
        ⟨_, [], 0, x5, x7, rfl, Nat.zero_le _, rfl, k3.trans kL, dv3.keep kL, rs3.keep kL, eL, gi_start cs b R, ⟨[], rfl⟩, Nat.le_refl 0⟩, fun m σ H4 hW => ?_⟩
      obtain ⟨pre, a, x5, x7, rfl, hab, rfl, k4, dv4, rs4, eL4, gi, la, lp⟩ := hW
      have atL : atI ((0 :: pre).map nV) (-1) = some (nV a) := by
        obtain ⟨ys, ey⟩ := la
        rw [ey, List.map_append]; exact atI_last _ _
      refine ⟨_, rfl, 1, rfl, L, _, -1, _, rfl, rfl, SqL.of eL4, atL, _, rfl, rfl, ?_⟩
      by_cases hb : a = b
      · subst hb
        refine ⟨false, bNT rfl, ?_⟩
        obtain ⟨g1, g2⟩ := gi_end gi hRb
        exact ⟨_, rfl, L, _, rfl, .inl ⟨SqL.of eL4, fun p np => q _ p pre (R 0) (k4.trans (same_upd (Same.refl H4) np)) upd_same (hR 0 (Nat.zero_le _)) g1 g2⟩⟩
      · refine ⟨true, bNF (fun z => hb (Int.ofNat.inj (V.int.inj z))), ?_⟩
        have hlt : a < b := by omega
        refine ⟨fun σ H' => ∃ (pre : List Nat) (a' : Nat) (x5 x7 : Option V), a < a' ∧ a' ≤ b ∧ σ = [some (nV n), some v, some (nV b), some (.ref D), some (.ref S), x5, some (.ref L), x7] ∧ Same H H' ∧ DemV H' D 2000 (demT n cs) ∧ RsD H' S R 0 b (b + 1) ∧ H' L = some (.lst ((0 :: pre).map nV)) ∧ GI cs b R pre a' ∧ (∃ ys, 0 :: pre = ys ++ [a']) ∧ pre.length ≤ a', fun σ' H' hN => ?_, ?_⟩
        · obtain ⟨pre', a', x5, x7, l1, l2, e, r⟩ := hN
          exact ⟨b - a', by omega, pre', a', x5, x7, rfl, l2, e, r⟩
        refine ⟨_, rfl, 1, rfl, L, _, -1, _, rfl, rfl, SqL.of eL4, atL, ?_⟩
        refine ⟨_, rfl, _, _, rfl, rfl, ?_⟩
        have e1 : V.int ((a : Nat) + 1 : Int) = nV (a + 1) := rfl
        refine ⟨fun m σ H' => ∃ j, m = b + 1 - j ∧ a < j ∧ j ≤ b ∧ σ = [some (nV n), some v, some (nV b), some (.ref D), some (.ref S), some (nV a), some (.ref L), some (nV j)] ∧ Same H4 H' ∧ ∀ i e', a < i → i < j → dem cs a i = some e' → e' + R i < R a, ⟨_, a + 1, rfl, Nat.lt_succ_self a, hlt, rfl, Same.refl H4, fun i e h1 h2 => by omega⟩, fun m σ H5 hW => ?_⟩
        obtain ⟨j, rfl, haj, hjb, rfl, k5, low⟩ := hW
        have nx : (∀ i e', a < i → i < j + 1 → dem cs a i = some e' → e' + R i < R a) → j + 1 ≤ b := fun lo => by
          obtain ⟨i, e, h1, h2, h3, h4⟩ := gi_next hlt hR
          rcases Nat.lt_or_ge i (j + 1) with z | z
          · have := lo i e h1 z h3
            omega
          · omega
        have eD : demT n cs (a : Int) (j : Int) = dem cs a j := demT_eq (by omega)
        refine ⟨_, rfl, _, rfl, by show 2 ≤ sizeLine; decide, fun t nt => ?_⟩
        have k6 := k5.trans (same_upd (o := .tup [nV a, nV j]) (Same.refl H5) nt)
        have et : upd H5 t (.tup [nV a, nV j]) t = some (.tup [nV a, nV j]) := upd_same
        have g1 := (dv4.keep k6).get et
        rw [eD] at g1
        generalize upd H5 t (.tup [nV a, nV j]) = H6 at k6 g1
        cases hd : dem cs a j with
        | none =>
          rw [hd] at g1
          have lo : ∀ i e', a < i → i < j + 1 → dem cs a i = some e' → e' + R i < R a := fun i e' h1 h2 h3 => by
            rcases Nat.lt_or_ge i j with z | z
            · exact low i e' h1 z h3
            · have : i = j := by omega
              rw [this, hd] at h3; cases h3
          refine ⟨_, rfl, D, _, rfl, g1, true, rfl, ?_⟩
          refine ⟨fun σ' H' => σ' = [some (nV n), some v, some (nV b), some (.ref D), some (.ref S), some (nV a), some (.ref L), some (nV (j + 1))] ∧ Same H4 H', fun σ' H' hN => ?_, ?_⟩
          · obtain ⟨rfl, k⟩ := hN
            exact ⟨b + 1 - (j + 1), by omega, j + 1, rfl, by omega, nx lo, rfl, k, lo⟩
          · refine ⟨_, rfl, _, _, rfl, rfl, ?_⟩
            exact ⟨rfl, k6⟩
        | some e =>
          rw [hd] at g1
          refine ⟨_, rfl, D, _, rfl, g1, false, rfl, ?_⟩
          refine ⟨_, rfl, _, rfl, _, rfl, by show 2 ≤ sizeLine; decide, fun u nu => ?_⟩
          have k7 := k6.trans (same_upd (o := .tup [nV a, nV j]) (Same.refl H6) nu)
          have eu : upd H6 u (.tup [nV a, nV j]) u = some (.tup [nV a, nV j]) := upd_same
          have g2 := (dv4.keep k7).get eu
          rw [eD, hd] at g2
          generalize upd H6 u (.tup [nV a, nV j]) = H7 at k7 g2
          have rs7 := rs4.keep k7
          have g3 := rs7.get (j := j) (Nat.zero_le _) hjb
          have g4 := rs7.get (j := a) (Nat.zero_le _) (by omega)
          refine ⟨D, _, rfl, g2, _, rfl, _, rfl, S, _, rfl, g3, _, _, rfl, rfl, _, rfl, _, rfl, S, _, rfl, g4, _, _, rfl, rfl, decide ((e : Int) + (R j : Int) < (R a : Int)), rfl, ?_⟩
          by_cases hl : (e : Int) + (R j : Int) < (R a : Int)
          · rw [decide_eq_true hl]
            have lo : ∀ i e', a < i → i < j + 1 → dem cs a i = some e' → e' + R i < R a := fun i e' h1 h2 h3 => by
              rcases Nat.lt_or_ge i j with z | z
              · exact low i e' h1 z h3
              · have : i = j := by omega
                rw [this, hd] at h3
                have := Option.some.inj h3
                subst this
                rw [‹i = j›]; omega
            refine ⟨fun σ' H' => σ' = [some (nV n), some v, some (nV b), some (.ref D), some (.ref S), some (nV a), some (.ref L), some (nV (j + 1))] ∧ Same H4 H', fun σ' H' hN => ?_, ?_⟩
            · obtain ⟨rfl, k⟩ := hN
              exact ⟨b + 1 - (j + 1), by omega, j + 1, rfl, by omega, nx lo, rfl, k, lo⟩
            · refine ⟨_, rfl, _, _, rfl, rfl, ?_⟩
              exact ⟨rfl, k7⟩
          · rw [decide_eq_false hl]
            have eL7 := k7 _ _ eL4
            refine ⟨.ref L, rfl, .inl ⟨rfl, _, SqL.of eL7⟩, _, rfl, L, _, _, rfl, rfl, eL7, szN (by rw [List.length_map, List.length_cons]; omega), ?_⟩
            refine ⟨pre ++ [j], j, _, _, haj, hjb, rfl, same_mut (k4.trans k7) nLH, (dv4.keep k7).other nDL, rs7.other nSL, by rw [upd_same, ← List.cons_append, List.map_append]; rfl, gi_step gi hlt hR haj hjb hd (by omega) low, ⟨0 :: pre, rfl⟩, by rw [List.length_append]; show _ + 1 ≤ _; omega⟩
end
end Vf

set_option Elab.async false
set_option linter.all false
set_option maxRecDepth 100000
set_option maxHeartbeats 4000000
namespace Vf
open PySem PySem.Spec PyProof.Rows L2 TL
/-! ### the largest sum of a chain is the least boundary -/
theorem bN_cand (cs : List Arc) (n : Nat) : ∃ a e, a ≤ n ∧ dem cs a (n + 1) = some e ∧ bN cs (n + 1) = bN cs a + e ∧ ∀ a' e', a' ≤ n → dem cs a' (n + 1) = some e' → bN cs a' + e' ≤ bN cs (n + 1) := by
  have e0 : bN cs (n + 1) = (mx ((List.range (n + 1)).filterMap (cand cs (bl cs n) (n + 1)))).getD 0 := by
    show (bl cs n ++ [_]).getD (n + 1) 0 = _
    rw [getD_last (by rw [bl_len])]
  obtain ⟨v, hv⟩ := cand_ne (cs := cs) (bs := bl cs n) n
  rw [hv] at e0
  have e0 : bN cs (n + 1) = v := e0
  have ⟨h1, h2⟩ := mx_spec hv
  obtain ⟨a, ha, ea⟩ := List.mem_filterMap.mp h1
  have ha := List.mem_range.mp ha
  unfold cand at ea
  cases hd : dem cs a (n + 1) with
  | none => rw [hd] at ea; cases ea
  | some e =>
    rw [hd, bl_get (by omega)] at ea
    have ea : bN cs a + e = v := Option.some.inj ea
    refine ⟨a, e, by omega, hd, by omega, fun a' e' h3 h4 => ?_⟩
    rw [e0]
    exact h2 _ (List.mem_filterMap.mpr ⟨a', List.mem_range.mpr (by omega), by unfold cand; rw [h4, bl_get h3]; rfl⟩)
theorem rm_bN (cs : List Arc) : ∀ b, RM cs b 0 (bN cs b) := by
  intro b
  induction b using Nat.strongRecOn with
  | _ b ih =>
    cases b with
    | zero => exact rm_self cs 0
    | succ n =>
      obtain ⟨a, e, ha, hd, he, hm⟩ := bN_cand cs n
      refine ⟨?_, fun xs s h => ?_⟩
      · obtain ⟨xs, hx⟩ := (ih a (by omega)).1
        exact ⟨xs ++ [n + 1], by rw [he]; exact hx.snoc (by omega) hd⟩
      · obtain ⟨ys, j, s', e', rfl, h1, h2, h3, rfl⟩ := h.unsnoc (by omega)
        have h4 := (ih j h2).2 _ _ h1
        have h5 := hm j e' (by omega) h3
        omega
/-! a chain as it is walked -/
theorem xg_app {xs ys : List Int} {i : Nat} (h : i < xs.length) : xg (xs ++ ys) i = xg xs i := by
  unfold xg
  exact getD_left h
theorem totF_app {f : Int → Int → Option Nat} {xs ys : List Int} : ∀ {m : Nat}, m < xs.length → totF f (xs ++ ys) m = totF f xs m
  | 0, _ => rfl
  | m + 1, h => by
    show (match totF f (xs ++ ys) m with | none => none | some t => (f (xg (xs ++ ys) m) (xg (xs ++ ys) (m + 1))).map (t + ·)) = (match totF f xs m with | none => none | some t => (f (xg xs m) (xg xs (m + 1))).map (t + ·))
    rw [totF_app (by omega), xg_app (by omega), xg_app h]
theorem ch_jd {cs : List Arc} : ∀ (k : Nat) {pre : List Nat} {b s : Nat}, pre.length = k → Ch cs 0 pre b s → Jd cs (b : Int) (s : Int) (iL (0 :: pre))
  | 0, pre, b, s, hk, h => by
    have hp : pre = [] := List.length_eq_zero_iff.mp hk
    subst hp
    cases h with
    | nil => exact ⟨by decide, rfl, rfl, fun k hk => absurd hk (by show ¬ k + 1 < 1; omega), 0, rfl, rfl⟩
  | k + 1, pre, b, s, hk, h => by
    have hb : 0 < b := by
      cases h with
      | nil => cases hk
      | cons h1 _ c => have := c.le; omega
    obtain ⟨ys, j, s', e, rfl, h1, h2, h3, rfl⟩ := h.unsnoc hb
    rw [List.length_append] at hk
    have hk : ys.length = k := Nat.succ.inj hk
    obtain ⟨l0, x0, xl, asc, t, ht, hts⟩ := ch_jd k hk h1
    have el : iL (0 :: (ys ++ [b])) = iL (0 :: ys) ++ [(b : Int)] := by
      unfold iL
      rw [← List.cons_append, List.map_append]; rfl
    have ll : (iL (0 :: ys)).length = k + 1 := by
      unfold iL
      rw [List.length_map, List.length_cons, hk]
    rw [ll, Nat.add_sub_cancel] at xl ht
    rw [ll] at asc
    rw [el]
    have lt : (iL (0 :: ys) ++ [(b : Int)]).length = k + 2 := by rw [List.length_append, ll]; rfl
    have xb : xg (iL (0 :: ys) ++ [(b : Int)]) (k + 1) = (b : Int) := by
      unfold xg
      exact getD_last (by omega)
    have xk : xg (iL (0 :: ys) ++ [(b : Int)]) k = (j : Int) := by rw [xg_app (by omega)]; exact xl
    have hst : t = s' := by omega
    refine ⟨by omega, by rw [xg_app (by omega)]; exact x0, by rw [lt]; exact xb, fun i hi => ?_, s' + e, ?_, by omega⟩
    · rw [lt] at hi
      by_cases c : i + 1 < k + 1
      · rw [xg_app (by omega), xg_app (by omega)]; exact asc i c
      · have : i = k := by omega
        subst this
        rw [xk, xb]; omega
    · rw [lt]
      refine totF_step (m := k) (by rw [totF_app (by omega), ht, hst]) ?_
      rw [xk, xb, demI_nat]; exact h3
theorem Jd.one {cs : List Arc} {b v w : Int} {xs : List Int} (h : Jd cs b v xs) (k : Jd cs b w xs) : v = w := by
  obtain ⟨_, _, _, _, t, ht, hv⟩ := h
  obtain ⟨_, _, _, _, t', ht', hw⟩ := k
  rw [ht] at ht'
  have := Option.some.inj ht'
  omega
theorem totF_pre {f : Int → Int → Option Nat} {xs : List Int} {m t : Nat} (h : totF f xs m = some t) : ∀ d, d ≤ m → ∃ u, totF f xs (m - d) = some u
  | 0, _ => ⟨t, h⟩
  | d + 1, hd => by
    obtain ⟨u, hu⟩ := totF_pre h d (by omega)
    rw [show m - d = (m - (d + 1)) + 1 by omega] at hu
    have hu : (match totF f xs (m - (d + 1)) with | none => none | some t => (f (xg xs (m - (d + 1))) (xg xs (m - (d + 1) + 1))).map (t + ·)) = some u := hu
    cases e : totF f xs (m - (d + 1)) with
    | none => rw [e] at hu; cases hu
    | some z => exact ⟨z, rfl⟩
section
variable {P : Program} {w : World} {K : PySem.W.Frag} {mg : Str → Option Value} {base : Heap}
def spWalked : Sp := fun vs H Q _ => ∃ (c : V) (a : Addr) (cs : List Arc) (b s : Nat) (ch : List Nat), vs = [c, nV b, .ref a] ∧ CellsV H c cs ∧ cs.length ≤ 1000 ∧ H a = some (.tup (ch.map nV)) ∧ ch.length ≤ 1000 ∧ Jd cs (b : Int) (s : Int) (iL ch) ∧ ∀ H', Same H H' → Q (nV s) H'
theorem ok_walked (T : Txt K mg) : FnOk P w K mg base CX0 2 T.a_law_walked T.d_law_walked ["_law_cells", "_law_boundary", "_law_chain"] spWalked := by
  have G_law_integers : FnOk P w K mg base CX0 1 T.a_law_integers T.d_law_integers ["_law_told_here", "_law_many"] spInts := ok_ints T
  have G_law_demand : FnOk P w K mg base CX0 1 T.a_law_demand T.d_law_demand ["_law_cells", "_law_first", "_law_last"] spLawDemand := ok_law_demand T
  refine T.D_law_walked.F.ok sc_law_walked (fun vs H Q E h => ?_) (fun cdv A outer s H vs Q E hr h => ?_)
  · obtain ⟨_, _, _, _, _, _, rfl, _⟩ := h
    rfl
  · obtain ⟨c, a, cs, b, sm, ch, rfl, hc, l1000, ha, hl, jd, q⟩ := h
    obtain ⟨l0, x0, xl, asc, t, ht, hts⟩ := jd
    have lil : (iL ch).length = ch.length := List.length_map _
    rw [lil] at l0 xl asc ht
    have hts : t = sm := by omega
    subst hts
    have hv : (ch.map nV) = (iL ch).map V.int := nv_int ch
    refine ⟨_, (pss_cons (ps_if (PW.pt (pw_or (pt_not (pt_val (pe_callB call_isi (by rfl) T.n_isinstance (by decide +kernel) (pa_cons (pv 2) (pa_cons (pe_bltn (v := .ty "tuple") (by rfl) T.n_tuple (by decide +kernel) rfl) pa_nil))))) (pw_or1 (pt_not (pt_val (pe_call G_law_integers (hr.mono (by decide)) (by rfl) T.D_law_integers.G T.D_law_integers.F.kp T.D_law_integers.B .nil pass0 (pa_cons (pv 2) (pa_cons (pe_callB call_len_seq (by rfl) T.n_len PySem.boot_len (pa_cons (pv 2) pa_nil)) pa_nil)))))))) (pss_one (ps_ret pe_non)) pss_nil)
      (pss_cons (ps_if (PW.pt (pw_or (pt_not (pt_truth (pv 2) (by intro _; rfl))) (pw_or (pt_cmpR op_ne (pe_ix ix_tup (pv 2) pe_int (fun _ _ => rfl)) pe_int (nomark _)) (pw_or1 (pt_cmpR op_ne (pe_ix ix_tup (pv 2) (pe_un un_neg pe_int) (fun _ _ => rfl)) (pv 1) (nomark _)))))) (pss_one (ps_ret pe_non)) pss_nil)
      (pss_cons (ps_set (i := 3) sc_law_walked.nd rfl (.inl rfl) pe_int)
      (pss_cons (ps_for PassesOwn.never rfl (pi_range2 (by rfl) T.n_range (pa_cons pe_int (pa_cons (pe_callB call_len_seq (by rfl) T.n_len PySem.boot_len (pa_cons (pv 2) pa_nil)) pa_nil))) (pg_name (i := 4) sc_law_walked.nd rfl (.inl rfl)) (pss_cons (ps_set (i := 5) sc_law_walked.nd rfl (.inl rfl) (pe_call G_law_demand (hr.mono (by decide)) (by rfl) T.D_law_demand.G T.D_law_demand.F.kp T.D_law_demand.B .nil pass0 (pa_cons (pv 0) (pa_cons (pe_ix ix_tup (pv 2) (pe_op op_sub (pv 4) pe_int) (fun _ _ => rfl)) (pa_cons (pe_ix ix_tup (pv 2) (pv 4) (fun _ _ => rfl)) pa_nil)))))
      (pss_cons (ps_if (PW.pt (pw_or (pt_cmpR op_le (pe_ix ix_tup (pv 2) (pv 4) (fun _ _ => rfl)) (pe_ix ix_tup (pv 2) (pe_op op_sub (pv 4) pe_int) (fun _ _ => rfl)) (nomark _)) (pw_or1 (pt_cmpR op_isN (pv 5) pe_non (nomark _))))) (pss_one (ps_ret pe_non)) pss_nil)
      (pss_one (ps_set (i := 3) sc_law_walked.nd rfl (.inl rfl) (pe_op op_add (pv 3) (pv 5)))))))
      (pss_one (ps_ret (pv 3))))))), ?_⟩
    refine ⟨_, rfl, _, _, .type "tuple", .type "tuple", true, rfl, .ty _, .base (.tup ha), kit_ty (by decide +kernel), _, rfl, ?_⟩
    refine ⟨_, rfl, _, rfl, a, _, rfl, .inr (SqT.of ha), a, ch, by rw [List.length_map]; rfl, ha, hl, fun H1 k1 => ⟨true, rfl, ?_⟩⟩
    have ha1 : H1 a = some (.tup ((iL ch).map V.int)) := by rw [← hv]; exact k1 _ _ ha
    refine ⟨_, rfl, true, .inr (.inl ⟨_, SqT.of (k1 _ _ ha), by cases ch with | nil => exact absurd l0 (by decide) | cons x r => rfl⟩), ?_⟩
    refine ⟨_, rfl, a, _, 0, V.int 0, rfl, rfl, SqT.of ha1, by have z := atI_nat (j := 0) (xg_at (xs := iL ch) (i := 0) (by rw [lil]; exact l0)); rw [x0] at z; exact z, rfl, false, rfl, ?_⟩
    refine ⟨_, rfl, 1, rfl, a, _, -1, _, rfl, rfl, SqT.of ha1, xg_last (by rw [lil]; exact l0), nV b, rfl, rfl, false, ?_, ?_⟩
    · rw [lil, xl]
      exact congrArg (fun z => V.bl (!z)) (decide_eq_true rfl)
    refine ⟨_, rfl, a, _, rfl, .inr (SqT.of ha1), _, _, rfl, ⟨by decide, by decide, by omega, by rw [List.length_map, lil]; omega⟩, ?_⟩
    rw [show (((((iL ch).map V.int).length : Nat) : Int) - 1).toNat = ch.length - 1 by rw [List.length_map, lil]; omega]
    refine for_it walk_range (fun i σ' H' => ∃ (x4 x5 : Option V) (u : Nat), σ' = [some c, some (nV b), some (.ref a), some (nV u), x4, x5] ∧ Same H H' ∧ totF (demI cs) (iL ch) i = some u) ⟨_, _, 0, rfl, k1, rfl⟩ (fun _ _ _ _ _ => trivial) ?_ ?_
    · rintro i x σ' Ha H2 hi ⟨x4, x5, u, rfl, k2, hu⟩ ⟨rfl, hx⟩
      have hx : x = nV (i + 1) := by rw [hx]; show V.int (1 + (i : Int)) = _; rw [show 1 + (i : Int) = ((i + 1 : Nat) : Int) by omega]; rfl
      subst hx
      have hi : i < ch.length - 1 := hi
      have ha2 : H2 a = some (.tup ((iL ch).map V.int)) := by rw [← hv]; exact k2 _ _ ha
      obtain ⟨e, he⟩ := totF_some ht i hi
      have a1 : atI ((iL ch).map V.int) (((i + 1 : Nat) : Int) - 1) = some (V.int (xg (iL ch) i)) := by
        rw [show ((i + 1 : Nat) : Int) - 1 = (i : Int) by omega]; exact atI_nat (xg_at (by omega))
      have a2 : atI ((iL ch).map V.int) ((i + 1 : Nat) : Int) = some (V.int (xg (iL ch) (i + 1))) := atI_nat (xg_at (by omega))
      have lt := asc i (by omega)
      refine ⟨_, rfl, _, rfl, _, rfl, _, _, rfl, rfl, a, _, _, _, rfl, rfl, SqT.of ha2, a1, _, rfl, _, rfl, a, _, _, _, rfl, rfl, SqT.of ha2, a2, c, cs, _, _, rfl, hc.mono (same_tup k2), l1000, fun H3 k3 => ?_⟩
      rw [he]
      have ha3 : H3 a = some (.tup ((iL ch).map V.int)) := k3 _ _ ha2
      refine ⟨_, rfl, _, rfl, a, _, _, _, rfl, rfl, SqT.of ha3, a2, _, rfl, _, rfl, _, _, rfl, rfl, a, _, _, _, rfl, rfl, SqT.of ha3, a1, _, _, rfl, rfl, false, bF (by omega), ?_⟩
      refine ⟨_, rfl, rfl, false, bl_of (decide_eq_false fun z => by cases z), ?_⟩
      refine ⟨_, rfl, _, rfl, (u : Int), (e : Int), rfl, rfl, ?_⟩
      exact ⟨_, _, u + e, congrArg (fun z => [some c, some (nV b), some (V.ref a), some (V.int z), some (nV (i + 1)), some (nV e)]) (show (u : Int) + (e : Int) = ((u + e : Nat) : Int) by omega), k2.trans k3, totF_step hu he⟩
    · rintro σ' H2 ⟨x4, x5, u, rfl, k2, hu⟩
      rw [ht] at hu
      have hu := Option.some.inj hu
      subst hu
      exact ⟨_, rfl, q H2 k2⟩
def spChainsR : Sp := fun vs H Q _ => ∃ (d l : Addr) (c : V) (a : Addr) (cs : List Arc) (n : Nat), vs = [.ref d, nV n, c, .ref a] ∧ DI d l H ∧ CellsV H c cs ∧ TabOk n cs ∧ H a = some (.tup ((bl cs n).map nV)) ∧ ∀ H', Kp d H H' → DI d l H' → Q (.bl true) H'
theorem ok_chains_right (T : Txt K mg) : FnOk P w K mg base CX0 4 T.a_law_chains_right T.d_law_chains_right ["_law_d", "_law_tracks", "_law_cells", "_law_told_here"] spChainsR := by
  have G_law_draw : FnOk P w K mg base CX0 1 T.a_law_draw T.d_law_draw ["_law_d", "_law_many"] spDraw := ok_draw T
  have G_law_pick : FnOk P w K mg base CX0 2 T.a_law_pick T.d_law_pick ["_law_d", "_law_row"] (spPick K) := ok_pick T
  have G_chain_of : FnOk P w K mg base CX0 2 T.a_chain_of T.d_chain_of ["tracks", "cells", "boundary"] spChainOf := ok_chain_of T
  have G_judge_chain : FnOk P w K mg base CX0 2 T.a_judge_chain T.d_judge_chain ["tracks", "cells", "boundary", "value", "chain"] spJudgeC := ok_judge_chain T
  have G_law_walked : FnOk P w K mg base CX0 2 T.a_law_walked T.d_law_walked ["_law_cells", "_law_boundary", "_law_chain"] spWalked := ok_walked T
  refine T.D_law_chains_right.F.ok sc_law_chains_right (fun vs H Q E h => ?_) (fun cdv A outer s H vs Q E hr h => ?_)
  · obtain ⟨_, _, _, _, _, _, rfl, _⟩ := h
    rfl
  · obtain ⟨d, l, c, a, cs, n, rfl, hD, ⟨ca, cus, rfl, ec, lc⟩, ok, ha, q⟩ := h
    have l1000 := ok.2.2.1
    have n40 := ok.2.1
    refine ⟨_, (pss_cons (ps_for PassesOwn.never rfl (pi_range1 (by rfl) T.n_range (pa_cons (pe_op op_add (pv 1) pe_int) pa_nil)) (pg_name (i := 4) sc_law_chains_right.nd rfl (.inl rfl)) (pss_cons (ps_set (i := 5) sc_law_chains_right.nd rfl (.inl rfl) (pe_call G_chain_of (hr.mono (by decide)) (by rfl) T.D_chain_of.G T.D_chain_of.F.kp T.D_chain_of.B .nil pass0 (pa_cons (pv 1) (pa_cons (pv 2) (pa_cons (pv 4) pa_nil)))))
      (pss_cons (ps_if (pt_cmpR op_ne (pe_call G_law_walked (hr.mono (by decide)) (by rfl) T.D_law_walked.G T.D_law_walked.F.kp T.D_law_walked.B .nil pass0 (pa_cons (pv 2) (pa_cons (pv 4) (pa_cons (pv 5) pa_nil)))) (pe_ix ix_tup (pv 3) (pv 4) (fun _ _ => rfl)) (nomark _)) (pss_one (ps_ret pe_bl)) pss_nil)
      (pss_cons (ps_if (pt_cmpR op_isnot_bl (pe_call G_judge_chain (hr.mono (by decide)) (by rfl) T.D_judge_chain.G T.D_judge_chain.F.kp T.D_judge_chain.B .nil pass0 (pa_cons (pv 1) (pa_cons (pv 2) (pa_cons (pv 4) (pa_cons (pe_ix ix_tup (pv 3) (pv 4) (fun _ _ => rfl)) (pa_cons (pv 5) pa_nil)))))) pe_bl (nomark _)) (pss_one (ps_ret pe_bl)) pss_nil)
      (pss_cons (ps_set (i := 6) sc_law_chains_right.nd rfl (.inl rfl) (pe_op op_add (pe_ix ix_tup (pv 3) (pv 4) (fun _ _ => rfl)) (pe_call G_law_pick (hr.mono (by decide)) (by rfl) T.D_law_pick.G T.D_law_pick.F.kp T.D_law_pick.B .nil pass0 (pa_cons (pv 0) (pa_cons (pe_lst (pa_cons (pe_un un_neg pe_int) (pa_cons pe_int (pa_cons (pe_op op_add pe_int (pe_call G_law_draw (hr.mono (by decide)) (by rfl) T.D_law_draw.G T.D_law_draw.F.kp T.D_law_draw.B .nil pass0 (pa_cons (pv 0) (pa_cons pe_int pa_nil)))) pa_nil)))) pa_nil)))))
      (pss_one (ps_if (pt_cmpR op_isnot_bl (pe_call G_judge_chain (hr.mono (by decide)) (by rfl) T.D_judge_chain.G T.D_judge_chain.F.kp T.D_judge_chain.B .nil pass0 (pa_cons (pv 1) (pa_cons (pv 2) (pa_cons (pv 4) (pa_cons (pv 6) (pa_cons (pv 5) pa_nil)))))) pe_bl (nomark _)) (pss_one (ps_ret pe_bl)) pss_nil)))))))
      (pss_one (ps_ret pe_bl))), ?_⟩
    refine ⟨_, rfl, _, _, rfl, rfl, (n : Int) + 1, rfl, by omega, by omega, ?_⟩
    rw [show ((n : Int) + 1).toNat = n + 1 by omega]
    refine for_it walk_range (fun i σ' H' => ∃ (x4 x5 x6 : Option V), σ' = [some (.ref d), some (nV n), some (.ref ca), some (.ref a), x4, x5, x6] ∧ Kp d H H' ∧ DI d l H' ∧ TK H H') ⟨none, none, none, rfl, Kp.refl d H, hD, TK.refl _⟩ (fun _ _ _ _ _ => trivial) ?_ ?_
    · rintro i x σ' Ha H2 hi ⟨x4, x5, x6, rfl, k2, D2, t2⟩ ⟨rfl, hx⟩
      have hx : x = nV i := by rw [hx]; exact int0 i
      subst hx
      have hi : i < n + 1 := hi
      have cv : ∀ {H' : Hp}, TK H H' → CellsV H' (.ref ca) cs := fun t => ⟨ca, cus, rfl, t _ _ ec, lc.mono fun _ _ z => z.mono t⟩
      refine ⟨_, rfl, _, rfl, _, rfl, .ref ca, n, i, cs, rfl, cv t2, ok, by omega, fun H3 p pre top k3 ep rm ch _ => ?_⟩
      have htop : top = bN cs i := rm.uniq (rm_bN cs i)
      subst htop
      have jd := ch_jd pre.length rfl ch
      have cl := ch.len
      have l40 : (0 :: pre).length ≤ 1000 := by rw [List.length_cons]; omega
      have t3 := t2.trans (TK.same k3)
      refine ⟨_, rfl, _, rfl, _, rfl, .ref ca, p, cs, i, bN cs i, 0 :: pre, rfl, cv t3, l1000, ep, l40, jd, fun H4 k4 => ?_⟩
      have t4 := t3.trans (TK.same k4)
      have ix : atI ((bl cs n).map nV) (i : Int) = some (nV (bN cs i)) := atI_nat (bl_ix (by omega))
      refine ⟨_, rfl, _, rfl, a, _, _, _, rfl, rfl, SqT.of (t4 _ _ ha), ix, rfl, false, ?_, ?_⟩
      · exact congrArg (fun z => V.bl (!z)) (decide_eq_true rfl)
      have cV : ∀ {H' : Hp}, Same H4 H' → ChainV H' (.ref p) (iL (0 :: pre)) := fun k => ⟨p, rfl, by rw [← nv_int]; exact k _ _ (k4 _ _ ep)⟩
      have lil : (iL (0 :: pre)).length ≤ 1000 := by unfold iL; rw [List.length_map]; exact l40
      refine ⟨_, rfl, _, rfl, _, rfl, _, rfl, _, rfl, a, _, _, _, rfl, rfl, SqT.of (t4 _ _ ha), ix, _, rfl, .ref ca, .ref p, n, cs, (i : Int), ((bN cs i : Nat) : Int), iL (0 :: pre), rfl, cv t4, ok, by omega, cV (Same.refl _), lil, fun H5 r5 k5 hr5 => ?_⟩
      have e5 := hr5.mpr jd
      subst e5
      refine ⟨true, true, rfl, rfl, false, rfl, ?_⟩
      have D5 := ((D2.keep k3).keep k4).keep k5
      have t5 := t4.trans (TK.same k5)
      have k25 := (((Kp.of_same (d := d) k3).trans (Kp.of_same k4)).trans (Kp.of_same k5))
      refine ⟨_, rfl, _, rfl, a, _, _, _, rfl, rfl, SqT.of (t5 _ _ ha), ix, _, rfl, 1, rfl, _, rfl, d, l, 50, rfl, D5, by decide, fun H6 r6 k6 D6 a1 a2 => ?_⟩
      obtain ⟨g, rfl, hg⟩ := draw_nt (by decide) a1 a2
      refine ⟨_, _, rfl, rfl, by show 3 ≤ sizeLine; decide, fun p7 np7 => ?_⟩
      have k7 := k6.new (o := .lst [V.int (-1), .int 1, .int (1 + (g : Int))]) np7
      refine ⟨d, l, _, _, rfl, D6.new np7, .inl ⟨p7, rfl, (D6.nd np7).1, SqL.of upd_same⟩, by show 0 < 3; decide, by show 3 ≤ 1000; decide, fun H8 v8 k8 D8 hv => ?_⟩
      obtain ⟨z, rfl, hz⟩ : ∃ z : Int, v8 = .int z ∧ z ≠ 0 := by
        simp only [List.mem_cons, List.not_mem_nil, or_false] at hv
        rcases hv with rfl | rfl | rfl
        · exact ⟨-1, rfl, by decide⟩
        · exact ⟨1, rfl, by decide⟩
        · exact ⟨1 + (g : Int), rfl, by omega⟩
      have k58 := k7.trans k8
      have t8 := t5.trans (kpTup D5 k58)
      have t48 : TK H4 H8 := (TK.same k5).trans (kpTup D5 k58)
      refine ⟨_, _, rfl, rfl, ?_⟩
      refine ⟨_, rfl, _, rfl, _, rfl, _, rfl, _, rfl, .ref ca, .ref p, n, cs, (i : Int), ((bN cs i : Nat) : Int) + z, iL (0 :: pre), rfl, cv t8, ok, by omega, ⟨p, rfl, by rw [← nv_int]; exact t48 _ _ (k4 _ _ ep)⟩, lil, fun H9 r9 k9 hr9 => ?_⟩
      have e9 : r9 = false := by
        cases r9 with
        | false => rfl
        | true =>
          have := (hr9.mp rfl).one jd
          omega
      subst e9
      refine ⟨false, false, rfl, rfl, false, rfl, ?_⟩
      exact ⟨_, _, _, rfl, ((k2.trans k25).trans k58).trans (Kp.of_same k9), D8.keep k9, t8.trans (TK.same k9)⟩
    · rintro σ' H2 ⟨x4, x5, x6, rfl, k2, D2, t2⟩
      exact q H2 k2 D2
end
end Vf

set_option Elab.async false
set_option linter.all false
set_option maxRecDepth 100000
set_option maxHeartbeats 4000000
namespace Vf
open PySem PySem.Spec PyProof.Rows L2 TL
/-! ### one cell wider, one cell less -/
theorem ak_le {cs cs' : List Arc} {f g : Nat → Nat} {n m : Nat} (h : ∀ x ∈ akL f n cs, ∃ y ∈ akL g n cs', x ≤ y + m) : ak cs f n ≤ ak cs' g n + m := by
  obtain ⟨y, hy, hl⟩ := h _ (ak_spec cs f n).1
  have := (ak_spec cs' g n).2 y hy
  omega
theorem akL_mem {f : Nat → Nat} {n x : Nat} {cs : List Arc} : x ∈ akL f n cs ↔ (∃ r ∈ cs, r.1 + r.2.1 = n ∧ x = f r.1 + r.2.2 + 1) ∨ x = f (n - 1) + 1 := by
  unfold akL
  rw [List.mem_append, List.mem_singleton, List.mem_filterMap]
  refine or_congr ⟨fun ⟨r, hr, e⟩ => ?_, fun ⟨r, hr, c, e⟩ => ⟨r, hr, ?_⟩⟩ Iff.rfl
  · unfold akR at e
    by_cases c : r.1 + r.2.1 = n
    · rw [if_pos c] at e
      exact ⟨r, hr, c, (Option.some.inj e).symm⟩
    · rw [if_neg c] at e; cases e
  · unfold akR
    rw [if_pos c, e]
theorem mid_mem {A B : List Arc} {x r : Arc} : r ∈ A ++ x :: B ↔ r ∈ A ++ B ∨ r = x := by
  rw [List.mem_append, List.mem_append, List.mem_cons]
  constructor
  · rintro (h | h | h)
    · exact .inl (.inl h)
    · exact .inr h
    · exact .inl (.inr h)
  · rintro ((h | h) | h)
    · exact .inl h
    · exact .inr (.inr h)
    · exact .inr (.inl h)
section
variable {A B : List Arc} {x : Arc}
theorem bN_ahead (hs : ∀ r ∈ A ++ x :: B, 1 ≤ r.2.1) : ∀ n, n < x.1 + x.2.1 → bN (A ++ x :: B) n = bN (A ++ B) n := by
  have hs2 : ∀ r ∈ A ++ B, 1 ≤ r.2.1 := fun r h => hs r (mid_mem.mpr (.inl h))
  intro n
  induction n using Nat.strongRecOn with
  | _ n ih =>
    intro hn
    cases n with
    | zero => rfl
    | succ n =>
      rw [← ak_bN n hs, ← ak_bN n hs2]
      refine Nat.le_antisymm (ak_le (m := 0) fun y hy => ?_) (ak_le (m := 0) fun y hy => ?_)
      · rcases akL_mem.mp hy with ⟨r, hr, c, e⟩ | e
        · rcases mid_mem.mp hr with h | h
          · have := hs r hr
            exact ⟨y, akL_mem.mpr (.inl ⟨r, h, c, by rw [e, ih r.1 (by omega) (by omega)]⟩), Nat.le_refl _⟩
          · rw [h] at c; omega
        · exact ⟨y, akL_mem.mpr (.inr (by rw [e, ih (n + 1 - 1) (by omega) (by omega)])), Nat.le_refl _⟩
      · rcases akL_mem.mp hy with ⟨r, hr, c, e⟩ | e
        · have := hs2 r hr
          exact ⟨y, akL_mem.mpr (.inl ⟨r, mid_mem.mpr (.inl hr), c, by rw [e, ih r.1 (by omega) (by omega)]⟩), Nat.le_refl _⟩
        · exact ⟨y, akL_mem.mpr (.inr (by rw [e, ih (n + 1 - 1) (by omega) (by omega)])), Nat.le_refl _⟩
theorem bN_fewer (hs : ∀ r ∈ A ++ x :: B, 1 ≤ r.2.1) : ∀ n, bN (A ++ B) n ≤ bN (A ++ x :: B) n := by
  have hs2 : ∀ r ∈ A ++ B, 1 ≤ r.2.1 := fun r h => hs r (mid_mem.mpr (.inl h))
  intro n
  induction n using Nat.strongRecOn with
  | _ n ih =>
    cases n with
    | zero => exact Nat.le_refl _
    | succ n =>
      rw [← ak_bN n hs, ← ak_bN n hs2]
      refine ak_le (m := 0) fun y hy => ?_
      rcases akL_mem.mp hy with ⟨r, hr, c, e⟩ | e
      · have := hs2 r hr
        have := ih r.1 (by omega)
        exact ⟨_, akL_mem.mpr (.inl ⟨r, mid_mem.mpr (.inl hr), c, rfl⟩), by omega⟩
      · have := ih (n + 1 - 1) (by omega)
        exact ⟨_, akL_mem.mpr (.inr rfl), by omega⟩
theorem bN_wider {c s w m : Nat} (h1 : 1 ≤ s) (hs2 : ∀ r ∈ A ++ B, 1 ≤ r.2.1) : ∀ n, bN (A ++ (c, s, w) :: B) n ≤ bN (A ++ (c, s, w + m) :: B) n ∧ bN (A ++ (c, s, w + m) :: B) n ≤ bN (A ++ (c, s, w) :: B) n + m := by
  have hs : ∀ w, ∀ r ∈ A ++ (c, s, w) :: B, 1 ≤ r.2.1 := fun w r h => by
    rcases mid_mem.mp h with h | h
    · exact hs2 r h
    · rw [h]; exact h1
  have ahd : bN (A ++ (c, s, w + m) :: B) c = bN (A ++ (c, s, w) :: B) c := (bN_ahead (hs (w + m)) c (by show c < c + s; omega)).trans (bN_ahead (hs w) c (by show c < c + s; omega)).symm
  intro n
  induction n using Nat.strongRecOn with
  | _ n ih =>
    cases n with
    | zero => exact ⟨Nat.le_refl _, Nat.le_add_right _ _⟩
    | succ n =>
      rw [← ak_bN n (hs w), ← ak_bN n (hs (w + m))]
      refine ⟨ak_le (m := 0) fun y hy => ?_, ak_le fun y hy => ?_⟩
      · rcases akL_mem.mp hy with ⟨r, hr, d, e⟩ | e
        · rcases mid_mem.mp hr with h | h
          · have := hs2 r h
            have := (ih r.1 (by omega)).1
            exact ⟨_, akL_mem.mpr (.inl ⟨r, mid_mem.mpr (.inl h), d, rfl⟩), by omega⟩
          · subst h
            have d : c + s = n + 1 := d
            have e : y = bN (A ++ (c, s, w) :: B) c + w + 1 := e
            exact ⟨bN (A ++ (c, s, w + m) :: B) c + (w + m) + 1, akL_mem.mpr (.inl ⟨(c, s, w + m), mid_mem.mpr (.inr rfl), d, rfl⟩), by omega⟩
        · have := (ih (n + 1 - 1) (by omega)).1
          exact ⟨_, akL_mem.mpr (.inr rfl), by omega⟩
      · rcases akL_mem.mp hy with ⟨r, hr, d, e⟩ | e
        · rcases mid_mem.mp hr with h | h
          · have := hs2 r h
            have := (ih r.1 (by omega)).2
            exact ⟨_, akL_mem.mpr (.inl ⟨r, mid_mem.mpr (.inl h), d, rfl⟩), by omega⟩
          · subst h
            have d : c + s = n + 1 := d
            have e : y = bN (A ++ (c, s, w + m) :: B) c + (w + m) + 1 := e
            exact ⟨bN (A ++ (c, s, w) :: B) c + w + 1, akL_mem.mpr (.inl ⟨(c, s, w), mid_mem.mpr (.inr rfl), d, rfl⟩), by omega⟩
        · have := (ih (n + 1 - 1) (by omega)).2
          exact ⟨_, akL_mem.mpr (.inr rfl), by omega⟩
end
end Vf

set_option Elab.async false
set_option linter.all false
set_option maxRecDepth 100000
set_option maxHeartbeats 4000000
namespace Vf
open PySem PySem.Spec PyProof.Rows L2 TL
theorem cut_takeL (us : List V) (n : Nat) : cutV us none (some (n : Int)) = us.take n := by
  unfold cutV
  rw [HT.sIx_none, HT.sIx_nat, List.drop_zero, Nat.sub_zero]
  by_cases c : n ≤ us.length
  · rw [Nat.min_eq_left c]
  · rw [Nat.min_eq_right (by omega), List.take_length, List.take_of_length_le (by omega)]
theorem cut_dropL (us : List V) (n : Nat) : cutV us (some (n : Int)) none = us.drop n := by
  unfold cutV
  rw [HT.sIx_none, HT.sIx_nat]
  by_cases c : n ≤ us.length
  · rw [Nat.min_eq_left c, List.take_of_length_le (by rw [List.length_drop]; omega)]
  · rw [Nat.min_eq_right (by omega), Nat.sub_self, List.take_zero, List.drop_eq_nil_of_le (by omega)]
theorem LV.dropN {α : Type} {R : V → α → Prop} {vs : List V} {rs : List α} (n : Nat) (h : LV R vs rs) : LV R (vs.drop n) (rs.drop n) := by
  refine ⟨by rw [List.length_drop, List.length_drop, h.1], fun i r e => ?_⟩
  rw [List.getElem?_drop] at e
  obtain ⟨x, e1, e2⟩ := h.2 _ r e
  exact ⟨x, by rw [List.getElem?_drop]; exact e1, e2⟩
section
variable {P : Program} {w : World} {K : PySem.W.Frag} {mg : Str → Option Value} {base : Heap}
def spMoved : Sp := fun vs H Q _ => ∃ (d l : Addr) (c : V) (a : Addr) (cs : List Arc) (n : Nat), vs = [.ref d, nV n, c, .ref a] ∧ DI d l H ∧ CellsV H c cs ∧ TabOk n cs ∧ 1 ≤ cs.length ∧ H a = some (.tup ((bl cs n).map nV)) ∧ ∀ H', Kp d H H' → DI d l H' → Q (.bl true) H'
theorem ok_moved (T : Txt K mg) : FnOk P w K mg base CX0 3 T.a_law_moved_right T.d_law_moved_right ["_law_d", "_law_tracks", "_law_cells", "_law_told_here"] spMoved := by
  have G_law_draw : FnOk P w K mg base CX0 1 T.a_law_draw T.d_law_draw ["_law_d", "_law_many"] spDraw := ok_draw T
  have G_boundaries : FnOk P w K mg base CX0 2 T.a_boundaries T.d_boundaries ["tracks", "cells"] spBoundaries := ok_boundaries T
  have G_law_integers : FnOk P w K mg base CX0 1 T.a_law_integers T.d_law_integers ["_law_told_here", "_law_many"] spInts := ok_ints T
  refine T.D_law_moved_right.F.ok sc_law_moved_right (fun vs H Q E h => ?_) (fun cdv A outer s H vs Q E hr h => ?_)
  · obtain ⟨_, _, _, _, _, _, rfl, _⟩ := h
    rfl
  · obtain ⟨d, l, c, a, cs, n, rfl, hD, ⟨ca, cus, rfl, ec, lc⟩, ok, hc1, ha, q⟩ := h
    obtain ⟨n1, n40, l1000, hs⟩ := ok
    have lcl := lc.1
    refine ⟨_, (pss_cons (ps_set (i := 4) sc_law_moved_right.nd rfl (.inl rfl) (pe_call G_law_draw (hr.mono (by decide)) (by rfl) T.D_law_draw.G T.D_law_draw.F.kp T.D_law_draw.B .nil pass0 (pa_cons (pv 0) (pa_cons (pe_callB call_len_seq (by rfl) T.n_len PySem.boot_len (pa_cons (pv 2) pa_nil)) pa_nil))))
      (pss_cons (ps_asg (pe_ix ix_tup (pv 2) (pv 4) (fun _ _ => rfl)) (pg_tup (by rfl) (pgs_cons (pg_name (i := 5) sc_law_moved_right.nd rfl (.inl rfl)) (pgs_cons (pg_name (i := 6) sc_law_moved_right.nd rfl (.inl rfl)) (pgs_cons (pg_name (i := 7) sc_law_moved_right.nd rfl (.inl rfl)) pgs_nil)))))
      (pss_cons (ps_set (i := 8) sc_law_moved_right.nd rfl (.inl rfl) (pe_op op_add pe_int (pe_call G_law_draw (hr.mono (by decide)) (by rfl) T.D_law_draw.G T.D_law_draw.F.kp T.D_law_draw.B .nil pass0 (pa_cons (pv 0) (pa_cons pe_int pa_nil)))))
      (pss_cons (ps_set (i := 9) sc_law_moved_right.nd rfl (.inl rfl) (pe_call G_boundaries (hr.mono (by decide)) (by rfl) T.D_boundaries.G T.D_boundaries.F.kp T.D_boundaries.B .nil pass0 (pa_cons (pv 1) (pa_cons (pe_op op_catA (pe_op op_catA (pe_slice sl_tupA (pv 2) po_none (po_some (pv 4))) (pe_tup (pa_cons (pe_tup (pa_cons (pv 5) (pa_cons (pv 6) (pa_cons (pe_op op_add (pv 7) (pv 8)) pa_nil)))) pa_nil))) (pe_slice sl_tupA (pv 2) (po_some (pe_op op_add (pv 4) pe_int)) po_none)) pa_nil))))
      (pss_cons (ps_set (i := 10) sc_law_moved_right.nd rfl (.inl rfl) (pe_call G_boundaries (hr.mono (by decide)) (by rfl) T.D_boundaries.G T.D_boundaries.F.kp T.D_boundaries.B .nil pass0 (pa_cons (pv 1) (pa_cons (pe_op op_catA (pe_slice sl_tupA (pv 2) po_none (po_some (pv 4))) (pe_slice sl_tupA (pv 2) (po_some (pe_op op_add (pv 4) pe_int)) po_none)) pa_nil))))
      (pss_cons (ps_if (PW.pt (pw_or (pt_not (pt_val (pe_call G_law_integers (hr.mono (by decide)) (by rfl) T.D_law_integers.G T.D_law_integers.F.kp T.D_law_integers.B .nil pass0 (pa_cons (pv 9) (pa_cons (pe_op op_add (pv 1) pe_int) pa_nil))))) (pw_or1 (pt_not (pt_val (pe_call G_law_integers (hr.mono (by decide)) (by rfl) T.D_law_integers.G T.D_law_integers.F.kp T.D_law_integers.B .nil pass0 (pa_cons (pv 10) (pa_cons (pe_op op_add (pv 1) pe_int) pa_nil)))))))) (pss_one (ps_ret pe_bl)) pss_nil)
      (pss_cons (ps_for PassesOwn.never rfl (pi_range1 (by rfl) T.n_range (pa_cons (pe_op op_add (pv 1) pe_int) pa_nil)) (pg_name (i := 11) sc_law_moved_right.nd rfl (.inl rfl)) (pss_cons (ps_if (PW.pt (pw_and (pt_cmpR op_lt (pv 11) (pe_op op_add (pv 5) (pv 6)) (nomark _)) (pw_and1 (PW.pt (pw_or (pt_cmpR op_ne (pe_ix ix_tup (pv 9) (pv 11) (fun _ _ => rfl)) (pe_ix ix_tup (pv 3) (pv 11) (fun _ _ => rfl)) (nomark _)) (pw_or1 (pt_cmpR op_ne (pe_ix ix_tup (pv 10) (pv 11) (fun _ _ => rfl)) (pe_ix ix_tup (pv 3) (pv 11) (fun _ _ => rfl)) (nomark _)))))))) (pss_one (ps_ret pe_bl)) pss_nil)
      (pss_one (ps_if (PW.pt (pw_or (pt_not (pt_chain op_le op_le (pe_ix ix_tup (pv 3) (pv 11) (fun _ _ => rfl)) (pe_ix ix_tup (pv 9) (pv 11) (fun _ _ => rfl)) (pe_op op_add (pe_ix ix_tup (pv 3) (pv 11) (fun _ _ => rfl)) (pv 8)))) (pw_or1 (pt_cmpR op_gt (pe_ix ix_tup (pv 10) (pv 11) (fun _ _ => rfl)) (pe_ix ix_tup (pv 3) (pv 11) (fun _ _ => rfl)) (nomark _))))) (pss_one (ps_ret pe_bl)) pss_nil))))
      (pss_one (ps_ret pe_bl))))))))), ?_⟩
    refine ⟨_, rfl, _, rfl, ca, _, rfl, .inr (SqT.of ec), d, l, (cus.length : Int), rfl, hD, by omega, fun H1 r k1 D1 a1 a2 => ?_⟩
    obtain ⟨g, rfl, hg⟩ := draw_nt (m := (cus.length : Int)) (by omega) a1 a2
    have hg2 : g < cs.length := by omega
    have t1 : TK H H1 := kpTup hD k1
    obtain ⟨y, ey, b, rfl, eb⟩ := lc.2 g cs[g] (List.getElem?_eq_getElem hg2)
    obtain ⟨p, s, w0, ex⟩ : ∃ p s w0, cs[g] = (p, s, w0) := ⟨_, _, _, rfl⟩
    rw [ex] at eb
    have eb : H b = some (.tup [nV p, nV s, nV w0]) := eb
    refine ⟨_, rfl, _, rfl, ca, _, _, _, rfl, rfl, SqT.of (t1 _ _ ec), atI_nat ey, b, _, rfl, SqT.of (t1 _ _ eb), rfl, _, _, rfl, _, _, rfl, _, _, rfl, rfl, ?_⟩
    refine ⟨_, rfl, d, l, 9, rfl, D1, by decide, fun H2 r k2 D2 a1 a2 => ?_⟩
    obtain ⟨m0, rfl, hm⟩ := draw_nt (by decide) a1 a2
    have t2 := t1.trans (kpTup D1 k2)
    refine ⟨_, _, rfl, rfl, ?_⟩
    have em : V.int (1 + (m0 : Int)) = nV (1 + m0) := congrArg V.int (by omega)
    have e2c := t2 _ _ ec
    obtain ⟨A, hA⟩ : ∃ A, A = cs.take g := ⟨_, rfl⟩
    obtain ⟨B, hB⟩ : ∃ B, B = cs.drop (g + 1) := ⟨_, rfl⟩
    have hcs : cs = A ++ (p, s, w0) :: B := by
      rw [hA, hB, ← ex, ← List.drop_eq_getElem_cons hg2, List.take_append_drop]
    have lA : LV (ArcV H) (cus.take g) A := by rw [hA]; exact lc.takeN g
    have lB : LV (ArcV H) (cus.drop (g + 1)) B := by rw [hB]; exact lc.dropN (g + 1)
    have hlA : A.length ≤ 1000 := by rw [hA, List.length_take]; omega
    have hlB : B.length ≤ 1000 := by rw [hB, List.length_drop]; omega
    have hlc : A.length + (B.length + 1) = cs.length := by rw [hcs, List.length_append, List.length_cons]
    have hsAB : ∀ r ∈ A ++ B, 1 ≤ r.2.1 ∧ r.1 + r.2.1 ≤ n := fun r h => hs r (by rw [hcs]; exact mid_mem.mpr (.inl h))
    have hsx : 1 ≤ s ∧ p + s ≤ n := hs (p, s, w0) (by rw [hcs]; exact mid_mem.mpr (.inr rfl))
    have okW : TabOk n (A ++ (p, s, w0 + (1 + m0)) :: B) := ⟨n1, n40, by rw [List.length_append, List.length_cons]; omega, fun r h => by
      rcases mid_mem.mp h with h | h
      · exact hsAB r h
      · rw [h]; exact hsx⟩
    have okF : TabOk n (A ++ B) := ⟨n1, n40, by rw [List.length_append]; omega, hsAB⟩
    have hs1 : ∀ r ∈ A ++ (p, s, w0) :: B, 1 ≤ r.2.1 := fun r h => (hs r (by rw [hcs]; exact h)).1
    have hsW : ∀ r ∈ A ++ (p, s, w0 + (1 + m0)) :: B, 1 ≤ r.2.1 := fun r h => (okW.2.2.2 r h).1
    refine ⟨_, rfl, .ref ca, rfl, _, rfl, (g : Int), rfl, slA_any e2c fun b1 H3 k3 e3 => ?_⟩
    rw [cut_takeL] at e3
    refine ⟨_, rfl, _, rfl, _, rfl, _, rfl, _, _, rfl, rfl, by show 3 ≤ sizeLine; decide, fun p1 np1 => ?_⟩
    generalize hX : upd H3 p1 _ = X
    have hX : X = upd H3 p1 (.tup [nV p, nV s, nV (w0 + (1 + m0))]) := by
      rw [← hX]
      exact congrArg (fun z => upd H3 p1 (.tup [nV p, nV s, V.int z])) (show (w0 : Int) + (1 + (m0 : Int)) = ((w0 + (1 + m0) : Nat) : Int) by omega)
    have kX : Same H3 X := by rw [hX]; exact same_upd (Same.refl _) np1
    have eX : X p1 = some (.tup [nV p, nV s, nV (w0 + (1 + m0))]) := by rw [hX]; exact upd_same
    clear hX
    refine ⟨by show 1 ≤ sizeLine; decide, fun p2 np2 => ?_⟩
    have k4 := same_upd (o := .tup [V.ref p1]) (Same.refl X) np2
    have e4 : upd X p2 (.tup [V.ref p1]) p2 = some (.tup [V.ref p1]) := upd_same
    generalize upd X p2 (.tup [V.ref p1]) = H4 at k4 e4
    have k34 := (kX.trans k4)
    have lcu : (cus.take g).length ≤ 1000 := by rw [List.length_take]; omega
    refine catA_any (k34 _ _ e3) e4 (by show _ + 1 ≤ _; exact Nat.le_of_lt (szN (by omega))) fun c1 H5 k5 e5 => ?_
    have k25 := (k3.trans k34).trans k5
    refine ⟨.ref ca, rfl, _, rfl, _, _, rfl, rfl, (g : Int) + 1, rfl, slA_fr (k25 _ _ e2c) fun b2 H6 k6 e6 => ?_⟩
    rw [show (g : Int) + 1 = ((g + 1 : Nat) : Int) by omega, cut_dropL] at e6
    have lcd : (cus.drop (g + 1)).length ≤ 1000 := by rw [List.length_drop]; omega
    refine catA_any (k6 _ _ e5) e6 (by rw [List.length_append]; show _ + 1 + _ ≤ _; exact Nat.le_of_lt (szN (by omega))) fun c2 H7 k7 e7 => ?_
    have k27 := (k25.trans k6).trans k7
    have t7 : TK H H7 := t2.trans (TK.same k27)
    have k47 := (k5.trans k6).trans k7
    refine ⟨.ref c2, n, A ++ (p, s, w0 + (1 + m0)) :: B, rfl, ⟨c2, _, rfl, e7, ?_⟩, okW, fun H8 W k8 eW => ?_⟩
    · have l1 := (lA.mono fun _ _ z => z.mono t7).snoc (show ArcV H7 (.ref p1) (p, s, w0 + (1 + m0)) from ⟨p1, rfl, (k4.trans k47) _ _ eX⟩)
      have l2 := l1.app (lB.mono fun _ _ z => z.mono t7)
      rw [List.append_assoc A, show [(p, s, w0 + (1 + m0))] ++ B = (p, s, w0 + (1 + m0)) :: B from rfl] at l2
      exact l2
    have t8 := t7.trans (TK.same k8)
    refine ⟨_, rfl, .ref ca, rfl, _, rfl, (g : Int), rfl, slA_any (t8 _ _ ec) fun b3 H9 k9 e9 => ?_⟩
    rw [cut_takeL] at e9
    refine ⟨.ref ca, rfl, _, rfl, _, _, rfl, rfl, (g : Int) + 1, rfl, slA_fr ((t8.trans (TK.same k9)) _ _ ec) fun b4 H10 k10 e10 => ?_⟩
    rw [show (g : Int) + 1 = ((g + 1 : Nat) : Int) by omega, cut_dropL] at e10
    refine catA_any (k10 _ _ e9) e10 (Nat.le_of_lt (szN (by omega))) fun c3 H11 k11 e11 => ?_
    have k811 := (k9.trans k10).trans k11
    have t11 := t8.trans (TK.same k811)
    refine ⟨.ref c3, n, A ++ B, rfl, ⟨c3, _, rfl, e11, (lA.mono fun _ _ z => z.mono t11).app (lB.mono fun _ _ z => z.mono t11)⟩, okF, fun H12 F k12 eF => ?_⟩
    have k812 := k811.trans k12
    have t12 := t11.trans (TK.same k12)
    have eW12 := k812 _ _ eW
    refine ⟨_, rfl, _, rfl, _, _, rfl, rfl, W, bl (A ++ (p, s, w0 + (1 + m0)) :: B) n, by rw [bl_len]; rfl, eW12, by rw [bl_len]; omega, fun H13 k13 => ⟨true, rfl, ?_⟩⟩
    refine ⟨_, rfl, _, rfl, _, _, rfl, rfl, F, bl (A ++ B) n, by rw [bl_len]; rfl, k13 _ _ eF, by rw [bl_len]; omega, fun H14 k14 => ⟨true, rfl, ?_⟩⟩
    have k1214 := k13.trans k14
    have eW14 := k1214 _ _ eW12
    have eF14 := k1214 _ _ eF
    have ha14 := (t12.trans (TK.same k1214)) _ _ ha
    rw [hcs] at ha14
    have kEnd : Kp d H H14 := (k1.trans k2).trans (Kp.of_same ((((k27.trans k8).trans k812)).trans k1214))
    have DEnd : DI d l H14 := D2.keep (((k27.trans k8).trans k812).trans k1214)
    clear e3 e4 e5 e6 e7 e9 e10 e11 eW eF
    refine ⟨_, rfl, _, _, rfl, rfl, (n : Int) + 1, rfl, by omega, by omega, ?_⟩
    rw [show ((n : Int) + 1).toNat = n + 1 by omega]
    refine for_it walk_range (fun i σ' H' => ∃ (x11 : Option V), σ' = [some (.ref d), some (nV n), some (.ref ca), some (.ref a), some (V.int (g : Int)), some (nV p), some (nV s), some (nV w0), some (V.int (1 + (m0 : Int))), some (.ref W), some (.ref F), x11] ∧ H' = H14) ⟨none, rfl, rfl⟩ (fun _ _ _ _ _ => trivial) ?_ ?_
    · rintro i x σ' Ha H15 hi ⟨x11, rfl, rfl⟩ ⟨rfl, hx⟩
      have hx : x = nV i := by rw [hx]; exact int0 i
      subst hx
      have hi : i < n + 1 := hi
      have iW : atI ((bl (A ++ (p, s, w0 + (1 + m0)) :: B) n).map nV) (i : Int) = some (nV (bN (A ++ (p, s, w0 + (1 + m0)) :: B) i)) := atI_nat (bl_ix (by omega))
      have iF : atI ((bl (A ++ B) n).map nV) (i : Int) = some (nV (bN (A ++ B) i)) := atI_nat (bl_ix (by omega))
      have iT : atI ((bl (A ++ (p, s, w0) :: B) n).map nV) (i : Int) = some (nV (bN (A ++ (p, s, w0) :: B) i)) := atI_nat (bl_ix (by omega))
      have f1 := bN_fewer (A := A) (B := B) (x := (p, s, w0)) hs1 i
      have ⟨f2, f3⟩ := bN_wider (A := A) (B := B) (c := p) (s := s) (w := w0) (m := 1 + m0) hsx.1 (fun r h => (hsAB r h).1) i
      have f4 := bN_ahead (A := A) (B := B) (x := (p, s, w0)) hs1 i
      have f5 := bN_ahead (A := A) (B := B) (x := (p, s, w0 + (1 + m0))) hsW i
      have f4 : i < p + s → bN (A ++ (p, s, w0) :: B) i = bN (A ++ B) i := f4
      have f5 : i < p + s → bN (A ++ (p, s, w0 + (1 + m0)) :: B) i = bN (A ++ B) i := f5
      generalize bN (A ++ (p, s, w0 + (1 + m0)) :: B) i = bw at iW f2 f3 f5
      generalize bN (A ++ B) i = bf at iF f1 f4 f5
      generalize bN (A ++ (p, s, w0) :: B) i = bt at iT f1 f2 f3 f4
      dsimp only [gNameA, tSeqA]
      refine ifs_k (fun σ' H' => σ' = [some (.ref d), some (nV n), some (.ref ca), some (.ref a), some (V.int (g : Int)), some (nV p), some (nV s), some (nV w0), some (V.int (1 + (m0 : Int))), some (.ref W), some (.ref F), some (nV i)] ∧ H' = H15) (fun k => ?_) ?_
      · by_cases cc : i < p + s
        · refine ⟨_, rfl, _, rfl, _, rfl, _, _, rfl, rfl, _, _, rfl, rfl, true, bT (by omega), ?_⟩
          refine ⟨_, rfl, _, rfl, W, _, _, _, rfl, rfl, SqT.of eW14, iW, _, rfl, _, rfl, a, _, _, _, rfl, rfl, SqT.of ha14, iT, rfl, false, ?_, ?_⟩
          · rw [f5 cc, f4 cc]
            exact congrArg (fun z => V.bl (!z)) (decide_eq_true rfl)
          refine ⟨_, rfl, _, rfl, F, _, _, _, rfl, rfl, SqT.of eF14, iF, _, rfl, _, rfl, a, _, _, _, rfl, rfl, SqT.of ha14, iT, rfl, false, ?_, ?_⟩
          · rw [f4 cc]
            exact congrArg (fun z => V.bl (!z)) (decide_eq_true rfl)
          exact k _ _ ⟨rfl, rfl⟩
        · refine ⟨_, rfl, _, rfl, _, rfl, _, _, rfl, rfl, _, _, rfl, rfl, false, bF (by omega), ?_⟩
          exact k _ _ ⟨rfl, rfl⟩
      rintro σ3 H16 ⟨rfl, rfl⟩
      refine ⟨_, rfl, _, rfl, a, _, _, _, rfl, rfl, SqT.of ha14, iT, _, rfl, _, rfl, W, _, _, _, rfl, rfl, SqT.of eW14, iW, _, _, rfl, rfl, true, bT (by omega), ?_⟩
      refine ⟨_, rfl, _, rfl, a, _, _, _, rfl, rfl, SqT.of ha14, iT, _, rfl, _, _, rfl, rfl, _, _, rfl, rfl, true, bT (by omega), ?_⟩
      refine ⟨_, rfl, _, rfl, F, _, _, _, rfl, rfl, SqT.of eF14, iF, _, rfl, _, rfl, a, _, _, _, rfl, rfl, SqT.of ha14, iT, _, _, rfl, rfl, false, bF (by omega), ?_⟩
      exact ⟨_, rfl, rfl⟩
    · rintro σ' H15 ⟨x11, rfl, rfl⟩
      exact q _ kEnd DEnd
end
end Vf

set_option Elab.async false
set_option linter.all false
set_option maxRecDepth 100000
set_option maxHeartbeats 4000000
namespace Vf
open PySem PySem.Spec PyProof.Rows L2 TL
theorem eqS {H : Hp} {n : Nat} {z : Str} : Eqv (n + 1) H (.str z) (.str z) := .inl (.inl ⟨z, rfl, rfl⟩)
theorem eqCut {H : Hp} {x y : V} {cs : List (List Nat × List Nat)} {n : Nat} (h : CutV H x cs) (k : CutV H y cs) (l : cs.length ≤ 100000) : Eqv (n + 3) H x y := by
  obtain ⟨p, us, rfl, e1, l1⟩ := h
  obtain ⟨q, vs, rfl, e2, l2⟩ := k
  refine .inr ⟨p, q, us, vs, rfl, rfl, e1, e2, by rw [l1.1, l2.1], by rw [l1.1]; exact l, fun i x y hx hy => ?_⟩
  obtain ⟨c, ec, b1, rfl, f1⟩ := l1.at hx
  obtain ⟨c', ec', b2, rfl, f2⟩ := l2.at hy
  have := Option.some.inj (ec.symm.trans ec')
  subst this
  refine .inr ⟨b1, b2, _, _, rfl, rfl, f1, f2, rfl, by show 2 ≤ _; omega, fun i x y hx hy => ?_⟩
  match i, hx, hy with
  | 0, hx, hy => rw [← Option.some.inj hx, ← Option.some.inj hy]; exact eqS
  | 1, hx, hy => rw [← Option.some.inj hx, ← Option.some.inj hy]; exact eqS
  | i + 2, hx, _ => cases hx
def setL (S : Sty) (Y : Tbl) (M : Nat) : List (List Nat × List Nat) := Y.map fun row => rowLn S (bl (celsA S Y) (ntr Y)) row M
/-- what is told, or the fault -/
def AskT (S : Sty) (Y : Tbl) (M : Nat) (H : Hp) (x : V) : Prop :=
  (bN (celsA S Y) (ntr Y) ≤ M + 1 → ∃ B z, x = .ref B ∧ H B = some (.tup [.str "set", z]) ∧ CutV H z (setL S Y M)) ∧
  (M + 1 < bN (celsA S Y) (ntr Y) → ∃ B C, x = .ref B ∧ H B = some (.tup [.str "refused", .ref C]) ∧ H C = some (.tup [.str "TooWide", .str "table"]))
theorem AskT.kt {S : Sty} {Y : Tbl} {M : Nat} {H H' : Hp} {x : V} (h : AskT S Y M H x) (k : ∀ a xs, H a = some (.tup xs) → H' a = some (.tup xs)) : AskT S Y M H' x := by
  refine ⟨fun c => ?_, fun c => ?_⟩
  · obtain ⟨B, z, h1, h2, h3⟩ := h.1 c
    exact ⟨B, z, h1, k _ _ h2, h3.kt k⟩
  · obtain ⟨B, C, h1, h2, h3⟩ := h.2 c
    exact ⟨B, C, h1, k _ _ h2, k _ _ h3⟩
theorem eqAskT {S : Sty} {Y : Tbl} {M : Nat} {H : Hp} {x y : V} (h : AskT S Y M H x) (k : AskT S Y M H y) (l : Y.length ≤ 12) : Eqv 4 H x y := by
  by_cases c : bN (celsA S Y) (ntr Y) ≤ M + 1
  · obtain ⟨B, z1, rfl, h1, h2⟩ := h.1 c
    obtain ⟨B', z2, rfl, k1, k2⟩ := k.1 c
    refine .inr ⟨B, B', _, _, rfl, rfl, h1, k1, rfl, by show 2 ≤ _; omega, fun i x y hx hy => ?_⟩
    match i, hx, hy with
    | 0, hx, hy => rw [← Option.some.inj hx, ← Option.some.inj hy]; exact eqS
    | 1, hx, hy =>
      rw [← Option.some.inj hx, ← Option.some.inj hy]
      exact eqCut (n := 0) h2 k2 (by unfold setL; rw [List.length_map]; omega)
    | i + 2, hx, _ => cases hx
  · have c : M + 1 < bN (celsA S Y) (ntr Y) := by omega
    obtain ⟨B, C, rfl, h1, h2⟩ := h.2 c
    obtain ⟨B', C', rfl, k1, k2⟩ := k.2 c
    refine .inr ⟨B, B', _, _, rfl, rfl, h1, k1, rfl, by show 2 ≤ _; omega, fun i x y hx hy => ?_⟩
    match i, hx, hy with
    | 0, hx, hy => rw [← Option.some.inj hx, ← Option.some.inj hy]; exact eqS
    | 1, hx, hy =>
      rw [← Option.some.inj hx, ← Option.some.inj hy]
      refine .inr ⟨C, C', _, _, rfl, rfl, h2, k2, rfl, by show 2 ≤ _; omega, fun i x y hx hy => ?_⟩
      match i, hx, hy with
      | 0, hx, hy => rw [← Option.some.inj hx, ← Option.some.inj hy]; exact eqS
      | 1, hx, hy => rw [← Option.some.inj hx, ← Option.some.inj hy]; exact eqS
      | i + 2, hx, _ => cases hx
    | i + 2, hx, _ => cases hx
/-! another measure -/
theorem pcN_m (S : Sty) (i : Int) (z : List Nat) (k m : Nat) : pcN { S with m := i } z k m = pcN S z k m := rfl
theorem csN_m (S : Sty) (i : Int) (ws : List Wrd) : ∀ n, csN { S with m := i } ws n = csN S ws n
  | 0 => rfl
  | n + 1 => by
    show (csN { S with m := i } ws n ++ if n = 0 then [] else [blankS 1]) ++ [wdS { S with m := i } (wrdAt ws n)] = _
    rw [csN_m S i ws n]; rfl
theorem cellS_m (S : Sty) (i : Int) (ws : List Wrd) : cellS { S with m := i } ws = cellS S ws := by
  unfold cellS
  rw [csN_m]
theorem celsA_m (S : Sty) (i : Int) (Y : Tbl) : celsA { S with m := i } Y = celsA S Y := by
  unfold celsA rowA rowT cellAt
  simp only [cellS_m]
theorem StyOk.m {S : Sty} (h : StyOk S) (i : Int) : StyOk { S with m := i } := ⟨h.sw, h.sc, h.sb, h.lw, h.lc, h.lb, h.w3, h.uw, h.uc, h.ub, h.cw⟩
section
variable {P : Program} {w : World} {K : PySem.W.Frag} {mg : Str → Option Value} {base : Heap}
def spToldT : Sp := fun vs H Q _ => ∃ (v y : V) (S : Sty) (Y : Tbl) (M : Nat), vs = [v, y] ∧ StyV H v S ∧ StyOk S ∧ S.m = (M : Int) ∧ TbV H y Y ∧ TbOk Y ∧ M ≤ 20000 ∧ ∀ H' x, Same H H' → AskT S Y M H' x → Q x H'
theorem ok_lawtold (T : Txt K mg) : FnOk P w K mg base CX0 12 T.a_law_told T.d_law_told ["_law_style_here", "_law_rows"] spToldT := by
  have G_strips : FnOk P w K mg base (L2N.CX P w) 11 T.a_table_strips T.d_table_strips ["style", "rows"] (spTab T.c_TooWide CvV) := ok_table_strips T
  have G_told : FnP P w K mg base 1 T.a_law_told_error T.d_law_told_error ["_law_e"] (spTold1 K T.c_TooWide "TooWide" "part") := ok_told_TooWide T
  refine T.D_law_told.F.ok sc_law_told (fun vs H Q E h => ?_) (fun cdv A outer s H vs Q E hr h => ?_)
  · obtain ⟨_, _, _, _, _, rfl, _⟩ := h
    rfl
  · obtain ⟨v, y, S, Y, M, rfl, sv, st, em, ⟨ta, us, rfl, et, lv⟩, ok, hM, q⟩ := h
    have hr1 : Room 1 _ := hr.mono (by decide)
    have hr11 : Room 11 _ := hr.mono (by decide)
    obtain ⟨va, wv, cv, bv, pr, rfl, ev, rw, rc, rb⟩ := id sv
    rw [em] at ev
    refine ⟨_, pss_one (L2N.ps_try_as (i := 2) (tb := fun W => tRet (tTup (tCons (tC (.str "set")) (tCons (tCallS (spTab T.c_TooWide CvV) (WE W) (tCons (tVar 0) (tCons (tVar 1) tNil))) tNil))))
          (ts := fun a cls d => tRet (tTup (tCons (tC (.str "refused")) (tCons (tTold T.c_TooWide "TooWide" "part" a cls d 2) tNil))))
          (Wout := fun _ _ _ _ => False) rfl rfl sc_law_told.nd rfl rfl ⟨rfl, by decide, Or.inl T.C_PagesError.G⟩ takesN0
          (fun W pn xe tk _ => pss_one (ps_ret (by exact (pe_tup (pa_cons pe_str (pa_cons (by exact (pe_callS G_strips hr11 rfl T.D_table_strips.G T.D_table_strips.F.kp T.D_table_strips.B (fun σ => L2N.passAt tk σ) (by exact (pa_cons (pv 0) (pa_cons (pv 1) pa_nil))))) pa_nil))))))
          (fun a oe cls d pn hz hf => pss_one (ps_ret (by exact (pe_tup (pa_cons pe_str (pa_cons (by exact (pe_told hz hf G_told hr1 rfl T.D_law_told_error.G T.D_law_told_error.F.kp T.D_law_told_error.B (pv 2))) pa_nil))))))), ?_⟩
    refine ⟨_, rfl, _, rfl, va, ta, _, us, S, Y, M, rfl, ev, rfl, sv, st, et, lv, ok, hM, fun hf H1 p ws k1 ep lw => ?_, fun hf H1 d k1 hd => ?_⟩
    · refine ⟨by show 2 ≤ sizeLine; decide, fun B nB => ?_⟩
      have k := same_upd (o := .tup [.str "set", .ref p]) (Same.refl H1) nB
      exact q _ _ (k1.trans k) ⟨fun _ => ⟨B, .ref p, rfl, upd_same, p, ws, rfl, k _ _ ep, lw.mono fun _ _ z => z.kt (kt_new nB)⟩, fun c => by omega⟩
    · refine ⟨true, T.x_TooWide, fun _ a ha => ?_, fun z => nomatch z⟩
      refine ⟨_, rfl, rfl, rfl, d, _, rfl, hd, fun H2 c2 s2 e2 => ?_⟩
      refine ⟨by show 2 ≤ sizeLine; decide, fun B nB => ?_⟩
      have k := same_upd (o := .tup [.str "refused", .ref c2]) s2 nB
      exact q _ _ (k1.trans k) ⟨fun c => by omega, fun _ => ⟨B, c2, rfl, upd_same, by rw [upd_ne (ne_of_none e2 nB)]; exact e2⟩⟩
end
end Vf

set_option Elab.async false
set_option linter.all false
set_option maxRecDepth 100000
set_option maxHeartbeats 4000000
namespace Vf
open PySem PySem.Spec PyProof.Rows L2 TL
/-! ### strips as they are seen -/
def covN (z1 z2 : List Nat) (n : Nat) : List Nat := (List.range n).map fun k => if z2.getD k 0 = 35 then 35 else z1.getD k 0
theorem covN_succ (z1 z2 : List Nat) (n : Nat) : covN z1 z2 (n + 1) = covN z1 z2 n ++ [if z2.getD n 0 = 35 then 35 else z1.getD n 0] := by
  unfold covN
  rw [List.range_succ, List.map_append]; rfl
theorem covN_len (z1 z2 : List Nat) (n : Nat) : (covN z1 z2 n).length = n := by
  unfold covN
  rw [List.length_map, List.length_range]
section
variable {P : Program} {w : World} {K : PySem.W.Frag} {mg : Str → Option Value} {base : Heap}
def spCov : Sp := fun vs H Q _ => ∃ (b : Addr) (z1 z2 : List Nat), vs = [.ref b] ∧ H b = some (.tup [sV z1, sV z2]) ∧ z2.length = z1.length ∧ z1.length ≤ 20000 ∧ ∀ H', Same H H' → Q (sV (covN z1 z2 z1.length)) H'
theorem ok_covered (T : Txt K mg) : FnOk P w K mg base CX0 1 T.a_law_covered T.d_law_covered ["_law_strip"] spCov := by
  refine T.D_law_covered.F.ok sc_law_covered (fun vs H Q E h => ?_) (fun cdv A outer s H vs Q E hr h => ?_)
  · obtain ⟨_, _, _, rfl, _⟩ := h
    rfl
  · obtain ⟨b, z1, z2, rfl, eb, e21, hl, q⟩ := h
    have hb1 : (mkS z1).length ≤ sizeLine := by rw [mkS_len]; exact big_ok (by omega)
    have hb2 : (mkS z2).length ≤ sizeLine := by rw [mkS_len]; exact big_ok (by omega)
    refine ⟨_, (pss_one (ps_ret (pe_join pe_str (pe_lc (own := [("_law_k", 1)]) (g := gName 1) (tt := tYes) rfl sc_law_covered.nd (pi_range1 (by rfl) T.n_range (pa_cons (pe_callB call_len_str (by rfl) T.n_len PySem.boot_len (pa_cons (pe_ix ix_tup (pv 0) pe_int (fun _ _ => rfl)) pa_nil)) pa_nil)) (blkOk_by (own := [("_law_k", 1)]) (N := ["_law_strip", "_law_k"]) (sc := (defScope s_law_covered)) (by decide +kernel)) (fun _ _ _ _ _ => (pg_name (i := 1) sc_law_covered.nd rfl (.inl rfl))) (fun _ _ _ _ _ => pts_nil) (fun _ _ _ _ _ => (pe_ifExp (pt_cmpR op_eq (pe_ix ix_str (pe_ix (r := rIxT K) ix_tup (pv 0) pe_int (fun _ _ => rfl)) (pv 1) (fun _ _ => rfl)) pe_str (nomark _)) pe_str (pe_ix ix_str (pe_ix (r := rIxT K) ix_tup (pv 0) pe_int (fun _ _ => rfl)) (pv 1) (fun _ _ => rfl)))))))), ?_⟩
    refine ⟨⟨_, rfl⟩, _, rfl, b, _, 0, _, rfl, rfl, SqT.of eb, rfl, _, rfl, hb1, (z1.length : Int), by rw [mkS_len], by omega, by omega, ?_⟩
    rw [Int.toNat_natCast]
    refine fun D nD => lc_range (lo := 0) (n := z1.length) (fun i H' => Same H H' ∧ H' D = some (.lst ((covN z1 z2 i).map sgn))) ⟨same_upd (Same.refl H) nD, upd_same⟩ (fun i H1 hi p => ⟨rfl, ?_⟩) (fun H1 p => ?_)
    · obtain ⟨k1, eD⟩ := p
      have eb1 := k1 _ _ eb
      have ei : (0 : Int) + (i : Int) = (i : Int) := Int.zero_add _
      have a1 : atI (mkS z1).cps.toList (0 + (i : Int)) = some (z1.getD i 0) := by rw [ei, mkS_cps]; exact text_at hi
      have a2 : atI (mkS z2).cps.toList (0 + (i : Int)) = some (z2.getD i 0) := by rw [ei, mkS_cps]; exact text_at (by omega)
      have key : ∀ y, y = sgn (if z2.getD i 0 = 35 then 35 else z1.getD i 0) → ∃ acc, H1 D = some (.lst acc) ∧ acc.length < sizeLine ∧ (Same H (upd H1 D (.lst (acc ++ [y]))) ∧ upd H1 D (.lst (acc ++ [y])) D = some (.lst ((covN z1 z2 (i + 1)).map sgn))) := fun y hy => by
        refine ⟨_, eD, by rw [List.length_map, covN_len]; exact szN (by omega), same_mut k1 nD, ?_⟩
        rw [upd_same, covN_succ, List.map_append, hy]; rfl
      dsimp only [tYes]
      rw [if_pos rfl]
      refine if_one (p := sgn (z2.getD i 0) = V.str ("#" : Str)) (x := sgn (if z2.getD i 0 = 35 then 35 else z1.getD i 0)) (fun R h => ?_) (fun c R h => ?_) (fun c R h => ?_) ?_
      · exact ⟨.ref b, by kernel_rfl, b, _, 1, _, rfl, rfl, SqT.of eb1, rfl, .int (0 + (i : Int)), by kernel_rfl, mkS z2, 0 + (i : Int), z2.getD i 0, rfl, rfl, hb2, a2, rfl, _, rfl, h⟩
      · have c : z2.getD i 0 = 35 := by
          have c2 : sgn (z2.getD i 0) = sgn 35 := c.trans (congrArg V.str cvr_mk)
          have := Array.mk.inj (Str.mk.inj (V.str.inj c2))
          exact (List.cons.inj this).1
        rw [if_pos c] at h
        show R (V.str ("#" : Str)) H1
        rw [cvr_mk]
        exact h
      · have c : ¬ z2.getD i 0 = 35 := fun e => c (by rw [e]; exact (congrArg V.str cvr_mk).symm)
        rw [if_neg c] at h
        exact ⟨.ref b, by kernel_rfl, b, _, 0, _, rfl, rfl, SqT.of eb1, rfl, .int (0 + (i : Int)), by kernel_rfl, mkS z1, 0 + (i : Int), z1.getD i 0, rfl, rfl, hb1, a1, h⟩
      · exact key _ rfl
    · obtain ⟨k1, eD⟩ := p
      refine ⟨_, D, ((covN z1 z2 z1.length).map fun c => [c]).map mkS, rfl, rfl, .inl (SqL.of (by rw [eD, List.map_map, List.map_map]; rfl)), ?_, ?_⟩
      · rw [sum_len, flat_1s, covN_len, show (("" : Str)).length = 0 from by rw [empty_mk, mkS_len]; rfl]; omega
      · rw [join_mk, flat_1s]
        exact q H1 k1
def spLike : Sp := fun vs H Q _ => ∃ (t : Addr) (us : List V) (cs : List (List Nat × List Nat)) (M : Nat), vs = [.ref t, nV cs.length, nV M] ∧ H t = some (.tup us) ∧ LV (CvV H) us cs ∧ (∀ c ∈ cs, c.1.length = M ∧ c.2.length = M) ∧ M ≤ 20000 ∧ Q (.bl true) H
theorem ok_like (T : Txt K mg) : FnOk P w K mg base CX0 1 T.a_law_like T.d_law_like ["_law_told_here", "_law_many", "_law_wide"] spLike := by
  refine T.D_law_like.F.ok sc_law_like (fun vs H Q E h => ?_) (fun cdv A outer s H vs Q E hr h => ?_)
  · obtain ⟨_, _, _, _, rfl, _⟩ := h
    rfl
  · obtain ⟨t, us, cs, M, rfl, et, lv, hc, hM, q⟩ := h
    have lus := lv.1
    refine ⟨_, (pss_cons (ps_if (PW.pt (pw_or (pt_not (pt_val (pe_callB call_isi (by rfl) T.n_isinstance (by decide +kernel) (pa_cons (pv 0) (pa_cons (pe_bltn (v := .ty "tuple") (by rfl) T.n_tuple (by decide +kernel) rfl) pa_nil))))) (pw_or1 (pt_cmpR op_ne (pe_callB call_len_seq (by rfl) T.n_len PySem.boot_len (pa_cons (pv 0) pa_nil)) (pv 1) (nomark _))))) (pss_one (ps_ret pe_bl)) pss_nil)
      (pss_cons (ps_for PassesOwn.never rfl (pi_tup (pv 0)) (pg_name (i := 3) sc_law_like.nd rfl (.inl rfl)) (pss_cons (ps_if (PW.pt (pw_or (pt_not (pt_val (pe_callB call_isi (by rfl) T.n_isinstance (by decide +kernel) (pa_cons (pv 3) (pa_cons (pe_bltn (v := .ty "tuple") (by rfl) T.n_tuple (by decide +kernel) rfl) pa_nil))))) (pw_or1 (pt_cmpR op_ne (pe_callB call_len_seq (by rfl) T.n_len PySem.boot_len (pa_cons (pv 3) pa_nil)) pe_int (nomark _))))) (pss_one (ps_ret pe_bl)) pss_nil)
      (pss_cons (ps_if (PW.pt (pw_or (pt_not (pt_val (pe_callB call_isi (by rfl) T.n_isinstance (by decide +kernel) (pa_cons (pe_ix ix_tup (pv 3) pe_int (fun _ _ => rfl)) (pa_cons (pe_bltn (v := .ty "str") (by rfl) T.n_str (by decide +kernel) rfl) pa_nil))))) (pw_or1 (pt_not (pt_val (pe_callB call_isi (by rfl) T.n_isinstance (by decide +kernel) (pa_cons (pe_ix ix_tup (pv 3) pe_int (fun _ _ => rfl)) (pa_cons (pe_bltn (v := .ty "str") (by rfl) T.n_str (by decide +kernel) rfl) pa_nil)))))))) (pss_one (ps_ret pe_bl)) pss_nil)
      (pss_one (ps_if (PW.pt (pw_or (pt_cmpR op_ne (pe_callB call_len_str (by rfl) T.n_len PySem.boot_len (pa_cons (pe_ix ix_tup (pv 3) pe_int (fun _ _ => rfl)) pa_nil)) (pv 2) (nomark _)) (pw_or1 (pt_cmpR op_ne (pe_callB call_len_str (by rfl) T.n_len PySem.boot_len (pa_cons (pe_ix ix_tup (pv 3) pe_int (fun _ _ => rfl)) pa_nil)) (pv 2) (nomark _))))) (pss_one (ps_ret pe_bl)) pss_nil)))))
      (pss_one (ps_ret pe_bl)))), ?_⟩
    refine ⟨_, rfl, _, _, .type "tuple", .type "tuple", true, rfl, .ty _, .base (.tup et), kit_ty (by decide +kernel), _, rfl, ?_⟩
    refine ⟨_, rfl, _, _, rfl, .inr (SqT.of et), _, rfl, rfl, false, ?_, ?_⟩
    · rw [lus]
      exact congrArg (fun z => V.bl (!z)) (decide_eq_true rfl)
    refine ⟨_, rfl, t, rfl, ⟨_, SqT.of et⟩, ?_⟩
    refine for_it (walk_tup (K := K) (a := t) (xs := us)) (fun i σ' H' => ∃ (x3 : Option V), σ' = [some (.ref t), some (nV cs.length), some (nV M), x3] ∧ H' = H) ⟨_, rfl, rfl⟩ ?_ ?_ ?_
    · rintro i σ1 H' _ ⟨_, _, rfl⟩
      exact SqT.of et
    · rintro i x σ1 Ha H2 hi ⟨x3, rfl, rfl⟩ ⟨rfl, hx⟩
      obtain ⟨c, ec, b, rfl, eb⟩ := lv.at hx
      have ⟨h1, h2⟩ := hc c (List.mem_of_getElem? ec)
      have hb1 : (mkS c.1).length ≤ sizeLine := by rw [mkS_len]; exact big_ok (by omega)
      have hb2 : (mkS c.2).length ≤ sizeLine := by rw [mkS_len]; exact big_ok (by omega)
      refine ⟨_, rfl, _, _, .type "tuple", .type "tuple", true, rfl, .ty _, .base (.tup eb), kit_ty (by decide +kernel), _, rfl, ?_⟩
      refine ⟨_, rfl, _, _, rfl, .inr (SqT.of eb), rfl, false, rfl, ?_⟩
      refine ⟨_, rfl, b, _, 0, _, rfl, rfl, SqT.of eb, rfl, _, _, .type "str", .type "str", true, rfl, .ty _, .base (.str _), kit_ty (by decide +kernel), _, rfl, ?_⟩
      refine ⟨_, rfl, b, _, 1, _, rfl, rfl, SqT.of eb, rfl, _, _, .type "str", .type "str", true, rfl, .ty _, .base (.str _), kit_ty (by decide +kernel), _, rfl, ?_⟩
      refine ⟨_, rfl, b, _, 0, _, rfl, rfl, SqT.of eb, rfl, _, rfl, hb1, _, rfl, rfl, false, ?_, ?_⟩
      · rw [mkS_len, h1]
        exact congrArg (fun z => V.bl (!z)) (decide_eq_true rfl)
      refine ⟨_, rfl, b, _, 1, _, rfl, rfl, SqT.of eb, rfl, _, rfl, hb2, _, rfl, rfl, false, ?_, ?_⟩
      · rw [mkS_len, h2]
        exact congrArg (fun z => V.bl (!z)) (decide_eq_true rfl)
      exact ⟨_, rfl, rfl⟩
    · rintro σ1 H2 ⟨x3, rfl, rfl⟩
      exact q
end
end Vf

set_option Elab.async false
set_option linter.all false
set_option maxRecDepth 100000
set_option maxHeartbeats 4000000
namespace Vf
open PySem PySem.Spec PyProof.Rows L2 TL
/-! ### words of b or n are as wide as they are long -/
def NoBN (S : Sty) : Prop := (∀ r ∈ S.W, r.1 ≠ 98 ∧ r.1 ≠ 110) ∧ ∀ r ∈ S.C, r.1.1 ∈ S.W.map Prod.fst
theorem bn_w {S : Sty} (nb : NoBN S) {c : Nat} (hc : c = 98 ∨ c = 110) : wOf S.W c = 1 ∧ ∀ d, cutOf S.C c d = 0 := by
  have hn : ∀ r ∈ S.W, r.1 ≠ c := fun r hr e => by
    have := nb.1 r hr
    omega
  refine ⟨?_, fun d => ?_⟩
  · unfold wOf
    rw [look_none hn]; rfl
  · unfold cutOf
    rw [look_none fun r hr e => ?_]; rfl
    obtain ⟨q, hq, e2⟩ := List.mem_map.mp (nb.2 r hr)
    exact hn q hq (by rw [e2, e])
theorem rep_get {n c k : Nat} (h : k < n) : (List.replicate n c).getD k 0 = c := by
  rw [List.getD_eq_getElem?_getD, List.getElem?_replicate, if_pos h]; rfl
theorem ex_piece {S : Sty} (nb : NoBN S) {c : Nat} (hc : c = 98 ∨ c = 110) (n : Nat) : ptW S (List.replicate n c) = List.replicate n c := by
  have ⟨hw, hcut⟩ := bn_w nb hc
  have key : ∀ (m i : Nat), i + m ≤ n → (List.range' i m).flatMap (fun k => (List.replicate n c).getD k 0 :: List.replicate (wAt S (List.replicate n c) (List.replicate n c).length k - 1) 95) = List.replicate m c := by
    intro m
    induction m with
    | zero => intro i _; rfl
    | succ m ih =>
      intro i hi
      have e1 : wAt S (List.replicate n c) (List.replicate n c).length i = 1 := by
        unfold wAt
        rw [rep_get (by omega), hw, hcut]
        split <;> rfl
      rw [List.range'_succ, List.flatMap_cons, ih (i + 1) (by omega), e1, rep_get (by omega)]; rfl
  unfold ptW pieceN
  rw [if_neg (Nat.lt_irrefl _), List.append_nil, Nat.sub_zero]
  have := key n 0 (by omega)
  simp only [List.length_replicate] at this ⊢
  exact this
/-- a word with the struck one exchanged -/
def exW (S : Sty) (y : Wrd) : Wrd := if y.2 = 1 ∧ (ptW S y.1).length ≤ 16 then (List.replicate (ptW S y.1).length (if y.1.getD 0 0 = 98 then 110 else 98), y.2) else y
theorem pt_pos {S : Sty} {z : List Nat} (h : 0 < z.length) : 0 < (ptW S z).length := by
  unfold ptW pieceN
  obtain ⟨n, hn⟩ : ∃ n, z.length - 0 = n + 1 := ⟨z.length - 1, by omega⟩
  rw [hn, List.range'_succ, List.flatMap_cons, List.length_append, List.length_append, List.length_cons]
  omega
theorem exW_ok {S : Sty} (nb : NoBN S) {y : Wrd} (h : WdOk y.1 ∧ 0 < y.1.length ∧ y.2 ≤ 1) : (WdOk (exW S y).1 ∧ 0 < (exW S y).1.length ∧ (exW S y).2 ≤ 1) ∧ (exW S y).2 = y.2 ∧ (ptW S (exW S y).1).length = (ptW S y.1).length ∧ (y.2 = 0 → exW S y = y) := by
  unfold exW
  by_cases c : y.2 = 1 ∧ (ptW S y.1).length ≤ 16
  · rw [if_pos c]
    have hc : (if y.1.getD 0 0 = 98 then 110 else 98) = 98 ∨ (if y.1.getD 0 0 = 98 then 110 else 98) = 110 := by split <;> simp
    generalize (if y.1.getD 0 0 = 98 then 110 else 98) = ch at hc
    have hp := pt_pos (S := S) h.2.1
    refine ⟨⟨⟨by rw [List.length_replicate]; exact c.2, fun x hx => ?_, fun x hx => ?_⟩, by rw [List.length_replicate]; exact hp, h.2.2⟩, rfl, by show (ptW S (List.replicate _ ch)).length = _; rw [ex_piece nb hc, List.length_replicate], fun z => by omega⟩
    · have := List.eq_of_mem_replicate hx
      omega
    · have := List.eq_of_mem_replicate hx
      omega
  · rw [if_neg c]
    exact ⟨h, rfl, rfl, fun _ => rfl⟩
theorem b_mk : (("b" : Str)) = mkS [98] := by decide +kernel
theorem n_mk : (("n" : Str)) = mkS [110] := by decide +kernel
section
variable {P : Program} {w : World} {K : PySem.W.Frag} {mg : Str → Option Value} {base : Heap}
def spExch : Sp := fun vs H Q _ => ∃ (v : V) (wt : Addr) (us : List V) (S : Sty) (ws : List Wrd), vs = [v, .ref wt] ∧ StyV H v S ∧ StyOk S ∧ NoBN S ∧ H wt = some (.tup us) ∧ LV (WkV H) us ws ∧ WsOk ws ∧
  ∀ H' p us', Same H H' → H' p = some (.tup us') → LV (WkV H') us' (ws.map (exW S)) → Q (.ref p) H'
theorem ok_exchanged (T : Txt K mg) : FnOk P w K mg base CX0 2 T.a_law_exchanged T.d_law_exchanged ["_law_style_here", "_law_words"] spExch := by
  have G_law_piece : FnOk P w K mg base CX0 1 T.a_law_piece T.d_law_piece ["_law_style_here", "_law_word_here", "_law_first", "_law_behind"] spLawPiece := ok_law_piece T
  refine T.D_law_exchanged.F.ok sc_law_exchanged (fun vs H Q E h => ?_) (fun cdv A outer s H vs Q E hr h => ?_)
  · obtain ⟨_, _, _, _, _, rfl, _⟩ := h
    rfl
  · obtain ⟨v, wt, us, S, ws, rfl, sv, st, nb, et, lw, ok, q⟩ := h
    have l7 := ok.ln
    have lus := lw.1
    refine ⟨_, (pss_cons (ps_set (i := 2) sc_law_exchanged.nd rfl (.inl rfl) (pe_lst pa_nil))
      (pss_cons (ps_for PassesOwn.never rfl (pi_tup (pv 1)) (pg_tup (by rfl) (pgs_cons (pg_name (i := 3) sc_law_exchanged.nd rfl (.inl rfl)) (pgs_cons (pg_name (i := 4) sc_law_exchanged.nd rfl (.inl rfl)) pgs_nil))) (pss_cons (ps_set (i := 5) sc_law_exchanged.nd rfl (.inl rfl) (pe_callB call_len_str (by rfl) T.n_len PySem.boot_len (pa_cons (pe_call G_law_piece (hr.mono (by decide)) (by rfl) T.D_law_piece.G T.D_law_piece.F.kp T.D_law_piece.B .nil pass0 (pa_cons (pv 0) (pa_cons (pv 3) (pa_cons pe_int (pa_cons (pe_callB call_len_str (by rfl) T.n_len PySem.boot_len (pa_cons (pv 3) pa_nil)) pa_nil))))) pa_nil)))
      (pss_cons (ps_if (PW.pt (pw_and (pt_cmpR op_eq (pv 4) pe_int (nomark _)) (pw_and1 (pt_cmpR op_le (pv 5) pe_int (nomark _))))) (pss_one (ps_set (i := 3) sc_law_exchanged.nd rfl (.inl rfl) (pe_op op_mul_str (pe_ifExp (pt_cmpR op_eq (pe_ix ix_str (pv 3) pe_int (fun _ _ => rfl)) pe_str (nomark _)) pe_str pe_str) (pv 5)))) pss_nil)
      (pss_one (ps_expr (pe_bm PySem.F.plainAttrs_list PySem.F.slot_list_append PySem.F.type_list_append mt_append (pv 2) (pa_cons (pe_tup (pa_cons (pv 3) (pa_cons (pv 4) pa_nil))) pa_nil)))))))
      (pss_one (ps_ret (pe_callTy call_tuple_of (by rfl) T.n_tuple (by decide +kernel) (pa_cons (pv 2) pa_nil)))))), ?_⟩
    refine ⟨by show 0 ≤ sizeLine; decide, fun D nD => ?_⟩
    have k1 := same_upd (o := .lst []) (Same.refl H) nD
    have eD : upd H D (.lst []) D = some (.lst []) := upd_same
    generalize upd H D (.lst []) = H1 at k1 eD
    refine ⟨_, rfl, wt, rfl, ⟨_, SqT.of (k1 _ _ et)⟩, ?_⟩
    refine for_it (walk_tup (K := K) (a := wt) (xs := us)) (fun n σ' H' => ∃ (x3 x4 x5 : Option V) (zs : List V), σ' = [some v, some (.ref wt), some (.ref D), x3, x4, x5] ∧ Same H H' ∧ H' D = some (.lst zs) ∧ LV (WkV H') zs ((ws.take n).map (exW S))) ⟨_, _, _, [], rfl, k1, eD, LV.nil⟩ ?_ ?_ ?_
    · rintro i σ1 H' _ ⟨_, _, _, _, _, k, _⟩
      exact SqT.of (k _ _ et)
    · rintro n x σ1 Ha H3 hn ⟨x3, x4, x5, zs, rfl, k3, eD3, lz⟩ ⟨rfl, hx⟩
      obtain ⟨yy, ey, p, rfl, ep⟩ := lw.at hx
      have hn2 : n < ws.length := by omega
      have hy := ok.wd yy (List.mem_of_getElem? ey)
      have ⟨wd, h0, hq⟩ := hy
      have w16 := wd.len
      have lzl := lz.1
      rw [List.length_map, List.length_take] at lzl
      have ps : (ptW S yy.1).length ≤ 100 := pieceW_small st _ _ wd (Nat.le_refl _)
      have hb1 : (mkS yy.1).length ≤ sizeLine := by rw [mkS_len]; exact big_ok (by omega)
      have hb2 : (mkS (ptW S yy.1)).length ≤ sizeLine := by rw [mkS_len]; exact big_ok (by omega)
      refine ⟨p, _, rfl, SqT.of (k3 _ _ ep), rfl, _, _, rfl, _, _, rfl, rfl, ?_⟩
      refine ⟨_, rfl, _, rfl, _, rfl, _, rfl, hb1, v, S, yy.1, 0, yy.1.length, congrArg (fun z : Nat => [v, sV yy.1, V.int 0, V.int (z : Int)]) (mkS_len yy.1), sv.mono (same_tup k3), st, wd, Nat.zero_le _, Nat.le_refl _, _, rfl, hb2, ?_⟩
      dsimp only [gNameA, tSeqA]
      refine ifs_k (fun σ' H' => σ' = [some v, some (.ref wt), some (.ref D), some (sV (exW S yy).1), some (nV yy.2), some (V.int ((mkS (ptW S yy.1)).length : Nat))] ∧ H' = H3) (fun k => ?_) ?_
      · refine ifs_of (p := nV yy.2 = V.int 1 ∧ ((mkS (ptW S yy.1)).length : Int) ≤ 16) (and_one (fun R h => ⟨_, rfl, rfl, _, rfl, h⟩) (fun R h => ⟨_, rfl, _, _, rfl, rfl, _, rfl, h⟩)) (fun c => ?_) (fun c => ?_)
        · have c1 : yy.2 = 1 := nV_inj c.1
          have c2 : (ptW S yy.1).length ≤ 16 := by
            have := c.2
            rw [mkS_len] at this
            omega
          have ee : (exW S yy).1 = List.replicate (ptW S yy.1).length (if yy.1.getD 0 0 = 98 then 110 else 98) := by
            unfold exW
            rw [if_pos ⟨c1, c2⟩]
          have a0 : atI (mkS yy.1).cps.toList 0 = some (yy.1.getD 0 0) := by rw [mkS_cps]; exact text_at (j := 0) h0
          dsimp only [tAsg, tOp]
          refine if_one (p := sgn (yy.1.getD 0 0) = V.str ("b" : Str)) (x := sgn (if yy.1.getD 0 0 = 98 then 110 else 98)) (fun R h => ⟨_, rfl, mkS yy.1, 0, yy.1.getD 0 0, rfl, rfl, hb1, a0, rfl, _, rfl, h⟩) (fun c R h => ?_) (fun c R h => ?_) ?_
          · have c : yy.1.getD 0 0 = 98 := by
              have c2 : sgn (yy.1.getD 0 0) = sgn 98 := c.trans (congrArg V.str b_mk)
              have := Array.mk.inj (Str.mk.inj (V.str.inj c2))
              exact (List.cons.inj this).1
            rw [if_pos c] at h
            show R (V.str ("n" : Str)) H3
            rw [n_mk]
            exact h
          · have c : ¬ yy.1.getD 0 0 = 98 := fun e => c (by rw [e]; exact (congrArg V.str b_mk).symm)
            rw [if_neg c] at h
            show R (V.str ("b" : Str)) H3
            rw [b_mk]
            exact h
          refine ⟨_, rfl, mkS [if yy.1.getD 0 0 = 98 then 110 else 98], (((mkS (ptW S yy.1)).length : Nat) : Int), rfl, rfl, mul_ok1 (by rw [mkS_len]; omega) (by rw [mkS_len]; show 1 ≤ 100; decide), ?_⟩
          have ev : V.str (Txt.mul (mkS [if yy.1.getD 0 0 = 98 then 110 else 98]) (((mkS (ptW S yy.1)).length : Nat) : Int)) = sV (exW S yy).1 := by
            rw [ee, mkS_len, mul_sign]; rfl
          exact k _ _ ⟨congrArg (fun z => [some v, some (V.ref wt), some (V.ref D), some z, some (nV yy.2), some (V.int ((mkS (ptW S yy.1)).length : Nat))]) ev, rfl⟩
        · have ee : (exW S yy).1 = yy.1 := by
            unfold exW
            rw [if_neg fun z => c ⟨congrArg nV z.1, by rw [mkS_len]; have := z.2; omega⟩]
          refine k _ _ ⟨?_, rfl⟩
          rw [ee]; rfl
      rintro σ4 H4 ⟨rfl, rfl⟩
      have e2 := (exW_ok nb hy).2.1
      refine ⟨.ref D, rfl, .inl ⟨rfl, _, .inl (.inl eD3)⟩, ?_⟩
      refine ⟨_, rfl, _, rfl, by show 2 ≤ sizeLine; decide, fun r nr => ?_⟩
      have eDX : upd H4 r (.tup [sV (exW S yy).1, nV yy.2]) D = some (.lst zs) := by rw [upd_ne (ne_of_none eD3 nr)]; exact eD3
      have kX : Same H (upd H4 r (.tup [sV (exW S yy).1, nV yy.2])) := k3.trans (same_upd (Same.refl _) nr)
      have rX : WkV (upd H4 r (.tup [sV (exW S yy).1, nV yy.2])) (.ref r) (exW S yy) := ⟨r, rfl, by rw [upd_same, e2]⟩
      have lX := LV.snoc (lz.mono fun _ _ z => z.kt (kt_new nr)) rX
      generalize upd H4 r (.tup [sV (exW S yy).1, nV yy.2]) = X at eDX kX rX lX
      refine ⟨D, zs, _, rfl, rfl, eDX, szN (by omega), ?_⟩
      refine ⟨_, _, _, zs ++ [.ref r], rfl, same_mut kX nD, upd_same, ?_⟩
      rw [List.take_succ, ey, List.map_append]
      exact lX.mono fun _ _ z => z.kt (kt_mut eDX)
    · rintro σ1 H3 ⟨x3, x4, x5, zs, rfl, k3, eD3, lz⟩
      rw [lus, List.take_length] at lz
      refine ⟨_, rfl, D, zs, rfl, .inl ⟨SqL.of eD3, fun t nt => ?_⟩⟩
      exact q _ t zs (same_upd k3 nt) upd_same (lz.mono fun _ _ z => z.kt (kt_new nt))
end
end Vf

set_option Elab.async false
set_option linter.all false
set_option maxRecDepth 100000
set_option maxHeartbeats 4000000
namespace Vf
open PySem PySem.Spec PyProof.Rows L2 TL
/-! ### blanks strip to nothing -/
theorem go_rep (n : Nat) : (List.replicate n 32).takeWhile (mkS [32]).cps.contains = List.replicate n 32 := by
  induction n with
  | zero => rfl
  | succ n ih =>
    rw [List.replicate_succ, List.takeWhile_cons_of_pos (by decide +kernel), ih]
theorem strip_blank (n : Nat) : Txt.stripChars (mkS (List.replicate n 32)) (mkS [32]) = mkS [] := by
  have hlo : stripLo (mkS [32]).cps.contains true (mkS (List.replicate n 32)) = n := by
    unfold stripLo
    rw [if_pos rfl, mkS_cps, go_rep, List.length_replicate]
  have hhi : stripHi (mkS [32]).cps.contains true (mkS (List.replicate n 32)) n = n := by
    unfold stripHi
    rw [if_pos rfl, mkS_cps, List.drop_eq_nil_of_le (by rw [List.length_replicate]; exact Nat.le_refl _), mkS_len, List.length_replicate]; rfl
  unfold Txt.stripChars Txt.stripBy
  by_cases c : stripSame (mkS [32]).cps.contains true true (mkS (List.replicate n 32)) = true
  · rw [if_pos c]
    unfold stripSame at c
    rw [hlo] at c
    have : n = 0 := by
      rw [Bool.and_eq_true] at c
      exact eq_of_beq c.1
    rw [this]; rfl
  · rw [if_neg c]
    unfold stripped
    rw [hlo, hhi]
    unfold Builtin.Str.strSub mkS
    simp
end Vf

set_option Elab.async false
set_option linter.all false
set_option maxRecDepth 100000
set_option maxHeartbeats 4000000
namespace Vf
open PySem PySem.Spec PyProof.Rows L2 TL
/-! ### parts of a row that is set -/
theorem seg_mid {P Q R : List Nat} {a n : Nat} (h : P.length = a) (hn : Q.length = n) : ((P ++ (Q ++ R)).drop a).take n = Q := by
  rw [← h, ← hn, List.drop_left, List.take_left]
theorem rSg_pre (S : Sty) (bs : List Nat) (row : List Cel) (n : Nat) : ∀ d, ∃ Z1 Z2, rSg S bs row (n + d) = rSg S bs row n ++ Z1 ∧ rCv S bs row (n + d) = rCv S bs row n ++ Z2
  | 0 => ⟨[], [], (List.append_nil _).symm, (List.append_nil _).symm⟩
  | d + 1 => by
    obtain ⟨Z1, Z2, h1, h2⟩ := rSg_pre S bs row n d
    have e1 := rSg_succ S bs row (n + d)
    have e2 := rCv_succ S bs row (n + d)
    rw [h1, List.append_assoc, List.append_assoc] at e1
    rw [h2, List.append_assoc, List.append_assoc] at e2
    exact ⟨_, _, e1, e2⟩
theorem pad_app (M : Nat) (A Z : List Nat) : ∃ R, padN M (A ++ Z) = A ++ R := ⟨Z ++ List.replicate (M - (A ++ Z).length) 32, by unfold padN; rw [List.append_assoc]⟩
/-- a row's signs: what is set ahead, blanks, the cell's signs, more -/
theorem row_cut {S : Sty} {bs : List Nat} {row : List Cel} {M n : Nat} (h : n < row.length) : ∃ R1 R2,
    padN M (rSg S bs row row.length) = rSg S bs row n ++ (List.replicate (bs.getD (trk row n) 0 - atN S bs row n) 32 ++ (wSg S (celAt row n).2 (celAt row n).2.length ++ R1)) ∧
    padN M (rCv S bs row row.length) = rCv S bs row n ++ (List.replicate (bs.getD (trk row n) 0 - atN S bs row n) 32 ++ (wCv S (celAt row n).2 (celAt row n).2.length ++ R2)) := by
  obtain ⟨Z1, Z2, h1, h2⟩ := rSg_pre S bs row (n + 1) (row.length - (n + 1))
  rw [show n + 1 + (row.length - (n + 1)) = row.length by omega] at h1 h2
  obtain ⟨R1, e1⟩ := pad_app M (rSg S bs row (n + 1)) Z1
  obtain ⟨R2, e2⟩ := pad_app M (rCv S bs row (n + 1)) Z2
  rw [← h1, rSg_succ, List.append_assoc, List.append_assoc] at e1
  rw [← h2, rCv_succ, List.append_assoc, List.append_assoc] at e2
  exact ⟨R1, R2, e1, e2⟩
/-! ### what is seen of a row -/
def covZ (z1 z2 : List Nat) : List Nat := List.zipWith (fun a b => if b = 35 then 35 else a) z1 z2
theorem covN_Z {z1 z2 : List Nat} (h : z2.length = z1.length) : covN z1 z2 z1.length = covZ z1 z2 := by
  unfold covN covZ
  refine List.ext_getElem ?_ fun i h1 h2 => ?_
  · rw [List.length_map, List.length_range, List.length_zipWith, h, Nat.min_self]
  · rw [List.length_map, List.length_range] at h1
    rw [List.getElem_map, List.getElem_range, List.getElem_zipWith, List.getD_eq_getElem?_getD, List.getD_eq_getElem?_getD, List.getElem?_eq_getElem h1, List.getElem?_eq_getElem (by omega)]; rfl
theorem covZ_app {a b c d : List Nat} (h : c.length = a.length) : covZ (a ++ b) (c ++ d) = covZ a c ++ covZ b d := List.zipWith_append h.symm
theorem covZ_rep {z : List Nat} : covZ z (List.replicate z.length 35) = List.replicate z.length 35 := by
  unfold covZ
  refine List.ext_getElem ?_ fun i h1 h2 => ?_
  · rw [List.length_zipWith, List.length_replicate, Nat.min_self]
  · simp only [List.getElem_zipWith, List.getElem_replicate, if_true]
def exC (S : Sty) (c : Cel) : Cel := (c.1, c.2.map (exW S))
theorem wrdAt_ex {S : Sty} {ws : List Wrd} {t : Nat} (h : t < ws.length) : wrdAt (ws.map (exW S)) t = exW S (wrdAt ws t) := by
  have e := wrdAt_at (ws := ws.map (exW S)) (t := t) (by rw [List.length_map]; exact h)
  rw [List.getElem?_map, wrdAt_at h] at e
  exact (Option.some.inj e).symm
theorem celAt_ex {S : Sty} {row : List Cel} {t : Nat} (h : t < row.length) : celAt (row.map (exC S)) t = exC S (celAt row t) := by
  have e := celAt_at (row := row.map (exC S)) (t := t) (by rw [List.length_map]; exact h)
  rw [List.getElem?_map, celAt_at h] at e
  exact (Option.some.inj e).symm
theorem wsOk_ex {S : Sty} (nb : NoBN S) {ws : List Wrd} (ok : WsOk ws) : WsOk (ws.map (exW S)) := by
  refine ⟨by rw [List.length_map]; exact ok.ln, fun y hy => ?_⟩
  obtain ⟨x, hx, rfl⟩ := List.mem_map.mp hy
  exact (exW_ok nb (ok.wd x hx)).1
theorem wSg_ex {S : Sty} (nb : NoBN S) {ws : List Wrd} (ok : WsOk ws) : ∀ t, t ≤ ws.length → (wSg S (ws.map (exW S)) t).length = (wSg S ws t).length ∧ wCv S (ws.map (exW S)) t = wCv S ws t ∧ covZ (wSg S (ws.map (exW S)) t) (wCv S ws t) = covZ (wSg S ws t) (wCv S ws t)
  | 0, _ => ⟨rfl, rfl, rfl⟩
  | t + 1, h => by
    have ⟨h1, h2, h3⟩ := wSg_ex nb ok t (by omega)
    have ⟨_, e2, e3, e4⟩ := exW_ok nb (ok.at (t := t) (by omega))
    have hl := wCv_len S ws t
    have hq := (ok.at (t := t) (by omega)).2.2
    rw [wSg_succ, wSg_succ, wCv_succ, wCv_succ, wrdAt_ex (by omega)]
    generalize wrdAt ws t = y at e2 e3 e4 hq
    refine ⟨?_, ?_, ?_⟩
    · rw [List.length_append, List.length_append, List.length_append, List.length_append, h1, e3]
    · rw [h2, e2, e3]
    · have l1 : (wCv S ws t ++ List.replicate (gpN t) 32).length = (wSg S (ws.map (exW S)) t ++ List.replicate (gpN t) 32).length := by
        rw [List.length_append, List.length_append, h1, hl]
      have l2 : (wCv S ws t ++ List.replicate (gpN t) 32).length = (wSg S ws t ++ List.replicate (gpN t) 32).length := by
        rw [List.length_append, List.length_append, hl]
      rw [covZ_app l1, covZ_app l2, covZ_app (by rw [h1]; exact hl), covZ_app hl, h3]
      congr 1
      by_cases c : y.2 = 0
      · rw [e4 c]
      · have c1 : kdC y.2 = 35 := if_neg c
        rw [c1, covZ_rep, ← e3, covZ_rep]
theorem trk_ex (S : Sty) (row : List Cel) (n : Nat) : trk (row.map (exC S)) n = trk row n := by
  unfold trk
  rw [← List.map_take, List.map_map]; rfl
theorem cel_ex {S : Sty} (nb : NoBN S) {ws : List Wrd} (ok : WsOk ws) : (cellS S (ws.map (exW S))).1.length = (cellS S ws).1.length := by
  show (wSg S (ws.map (exW S)) (ws.map (exW S)).length).length = (wSg S ws ws.length).length
  rw [List.length_map]
  exact (wSg_ex nb ok ws.length (Nat.le_refl _)).1
theorem atN_ex {S : Sty} (nb : NoBN S) {bs : List Nat} {row : List Cel} (ok : RwOk row) : ∀ n, n ≤ row.length → atN S bs (row.map (exC S)) n = atN S bs row n
  | 0, _ => rfl
  | n + 1, h => by
    show bs.getD (trk (row.map (exC S)) n) 0 + (cellS S (celAt (row.map (exC S)) n).2).1.length = _
    rw [trk_ex, celAt_ex (by omega)]
    show _ + (cellS S ((celAt row n).2.map (exW S))).1.length = _
    rw [cel_ex nb (ok.at (t := n) (by omega)).2]; rfl
theorem rSg_ex {S : Sty} (nb : NoBN S) {bs : List Nat} {row : List Cel} {M : Nat} (ok : RwOk row) (b : BsOk S bs row M) : ∀ n, n ≤ row.length → (rSg S bs (row.map (exC S)) n).length = (rSg S bs row n).length ∧ rCv S bs (row.map (exC S)) n = rCv S bs row n ∧ covZ (rSg S bs (row.map (exC S)) n) (rCv S bs row n) = covZ (rSg S bs row n) (rCv S bs row n)
  | 0, _ => ⟨rfl, rfl, rfl⟩
  | n + 1, h => by
    have ⟨h1, h2, h3⟩ := rSg_ex nb ok b n (by omega)
    have ⟨l1, l2⟩ := rSg_len b n (by omega)
    have wok := (ok.at (t := n) (by omega)).2
    have ⟨w1, w2, w3⟩ := wSg_ex nb wok (celAt row n).2.length (Nat.le_refl _)
    have wl := wCv_len S (celAt row n).2 (celAt row n).2.length
    rw [rSg_succ, rSg_succ, rCv_succ, rCv_succ, celAt_ex (by omega), atN_ex nb ok n (by omega), trk_ex]
    have ex : (exC S (celAt row n)).2 = (celAt row n).2.map (exW S) := rfl
    rw [ex, List.length_map]
    generalize bs.getD (trk row n) 0 - atN S bs row n = g
    refine ⟨?_, ?_, ?_⟩
    · rw [List.length_append, List.length_append, List.length_append, List.length_append, h1, w1]
    · rw [h2, w2]
    · have c1 : (rCv S bs row n ++ List.replicate g 32).length = (rSg S bs (row.map (exC S)) n ++ List.replicate g 32).length := by
        rw [List.length_append, List.length_append, h1, l1, l2]
      have c2 : (rCv S bs row n ++ List.replicate g 32).length = (rSg S bs row n ++ List.replicate g 32).length := by
        rw [List.length_append, List.length_append, l1, l2]
      rw [covZ_app c1, covZ_app c2, covZ_app (by rw [h1, l1, l2]), covZ_app (by rw [l1, l2]), h3, w3]
theorem rwOk_ex {S : Sty} (nb : NoBN S) {row : List Cel} (ok : RwOk row) : RwOk (row.map (exC S)) := by
  refine ⟨by rw [List.length_map]; exact ok.n1, by rw [List.length_map]; exact ok.n8, fun c hc => ?_, by rw [List.length_map, trk_ex]; exact ok.t8⟩
  obtain ⟨x, hx, rfl⟩ := List.mem_map.mp hc
  exact ⟨(ok.sp x hx).1, wsOk_ex nb (ok.sp x hx).2⟩
def exT (S : Sty) (Y : Tbl) : Tbl := Y.map fun row => row.map (exC S)
theorem tbOk_ex {S : Sty} (nb : NoBN S) {Y : Tbl} (ok : TbOk Y) : TbOk (exT S Y) := by
  refine ⟨by unfold exT; rw [List.length_map]; exact ok.n1, by unfold exT; rw [List.length_map]; exact ok.n12, fun r hr => ?_⟩
  obtain ⟨x, hx, rfl⟩ := List.mem_map.mp hr
  exact rwOk_ex nb (ok.rw x hx)
theorem rowA_ex {S : Sty} (nb : NoBN S) {row : List Cel} (ok : RwOk row) : rowA S (row.map (exC S)) row.length = rowA S row row.length := by
  unfold rowA rowT
  rw [List.map_map, List.map_map]
  refine List.map_congr_left fun t ht => ?_
  have ht := List.mem_range.mp ht
  show (trk (row.map (exC S)) t, (celAt (row.map (exC S)) t).1, (cellS S (celAt (row.map (exC S)) t).2).1.length) = (trk row t, (celAt row t).1, (cellS S (celAt row t).2).1.length)
  rw [trk_ex, celAt_ex ht]
  show (_, _, (cellS S ((celAt row t).2.map (exW S))).1.length) = _
  rw [cel_ex nb (ok.at ht).2]; rfl
theorem celsA_ex {S : Sty} (nb : NoBN S) {Y : Tbl} (ok : ∀ r ∈ Y, RwOk r) : celsA S (exT S Y) = celsA S Y := by
  unfold celsA exT
  induction Y with
  | nil => rfl
  | cons r Y ih =>
    rw [List.map_cons, List.flatMap_cons, List.flatMap_cons, ih fun x hx => ok x (List.mem_cons_of_mem _ hx), List.length_map, rowA_ex nb (ok r List.mem_cons_self)]
theorem ntr_ex (S : Sty) (Y : Tbl) : ntr (exT S Y) = ntr Y := by
  unfold ntr exT
  rw [List.map_map]
  congr 2
  refine List.map_congr_left fun r _ => ?_
  show trk (r.map (exC S)) (r.map (exC S)).length = _
  rw [List.length_map, trk_ex]
/-- the covered rows of both tables are the same -/
theorem cov_ex {S : Sty} (nb : NoBN S) {bs : List Nat} {row : List Cel} {M : Nat} (ok : RwOk row) (b : BsOk S bs row M) : covZ (rowLn S bs (row.map (exC S)) M).1 (rowLn S bs (row.map (exC S)) M).2 = covZ (rowLn S bs row M).1 (rowLn S bs row M).2 := by
  have ⟨h1, h2, h3⟩ := rSg_ex nb ok b row.length (Nat.le_refl _)
  have ⟨l1, l2⟩ := rSg_len b row.length (Nat.le_refl _)
  rw [rowLn_pad S bs row M (by rw [l1, l2]), rowLn_pad S bs (row.map (exC S)) M (by rw [List.length_map, h1, h2, l1, l2]), List.length_map]
  show covZ (padN M _) (padN M _) = covZ (padN M _) (padN M _)
  unfold padN
  rw [h1, h2, covZ_app (by rw [h1, l1, l2]), covZ_app (by rw [l1, l2]), h3]
theorem rowLn_len {S : Sty} {bs : List Nat} {row : List Cel} {M : Nat} (b : BsOk S bs row M) : (rowLn S bs row M).1.length = M ∧ (rowLn S bs row M).2.length = M := by
  have ⟨l1, l2⟩ := rSg_len b row.length (Nat.le_refl _)
  have fit := b.fit
  rw [rowLn_pad S bs row M (by rw [l1, l2])]
  exact ⟨pad_len (by omega), pad_len (by omega)⟩
end Vf

set_option Elab.async false
set_option linter.all false
set_option maxRecDepth 100000
set_option maxHeartbeats 4000000
namespace Vf
open PySem PySem.Spec PyProof.Rows L2 TL
theorem blk_len0 : ((mkS []).length : Int) = 0 := rfl
theorem cutDz {zs : List Nat} {j : Nat} (h : j ≤ zs.length) : cutS (mkS zs) (some (j : Int)) none = mkS (zs.drop j) := by
  unfold cutS
  rw [HT.sIx_none, HT.sIx_nat, mkS_len, Nat.min_eq_left h, List.take_of_length_le]
  · rfl
  · rw [List.length_drop]; exact Nat.le_refl _
/-- a part between two places that is made of blanks strips to nothing -/
theorem strip_seg {P Q R : List Nat} {a b g : Nat} (hP : P.length = a) (hb : b = a + g) (hQ : Q = List.replicate g 32) : Txt.stripChars (cutS (mkS (P ++ (Q ++ R))) (some (a : Int)) (some (b : Int))) (" " : Str) = mkS [] := by
  have l1 : a ≤ (P ++ (Q ++ R)).length := by rw [List.length_append]; omega
  have l2 : b ≤ (P ++ (Q ++ R)).length := by rw [List.length_append, List.length_append, hQ, List.length_replicate]; omega
  rw [cutMid l1 l2, seg_mid hP (by rw [hQ, List.length_replicate]; omega), hQ, blk_mk]
  exact strip_blank g
theorem seg_is {P Q R : List Nat} {a b : Nat} (hP : P.length = a) (hb : b = a + Q.length) : cutS (mkS (P ++ (Q ++ R))) (some (a : Int)) (some (b : Int)) = mkS Q := by
  have l1 : a ≤ (P ++ (Q ++ R)).length := by rw [List.length_append]; omega
  have l2 : b ≤ (P ++ (Q ++ R)).length := by rw [List.length_append, List.length_append]; omega
  rw [cutMid l1 l2, seg_mid hP (by omega)]
theorem strip_end {P : List Nat} {a g : Nat} (hP : P.length = a) : Txt.stripChars (cutS (mkS (P ++ List.replicate g 32)) (some (a : Int)) none) (" " : Str) = mkS [] := by
  rw [cutDz (by rw [List.length_append]; omega), ← hP, List.drop_left, blk_mk]
  exact strip_blank g
section
variable {P : Program} {w : World} {K : PySem.W.Frag} {mg : Str → Option Value} {base : Heap}
def spRowR : Sp := fun vs H Q _ => ∃ (v rv : V) (e p : Addr) (S : Sty) (bs : List Nat) (row : List Cel) (M : Nat), vs = [v, rv, .ref e, .ref p] ∧ StyV H v S ∧ StyOk S ∧ RowV H rv row ∧ RwOk row ∧ BsOk S bs row M ∧ H e = some (.tup (bs.map nV)) ∧
  H p = some (.tup [sV (rowLn S bs row M).1, sV (rowLn S bs row M).2]) ∧ ∀ H', Same H H' → Q (.bl true) H'
theorem ok_row_right (T : Txt K mg) : FnOk P w K mg base CX0 3 T.a_law_row_right T.d_law_row_right ["_law_style_here", "_law_row", "_law_told_here", "_law_strip"] spRowR := by
  have G_law_cell_signs : FnOk P w K mg base CX0 2 T.a_law_cell_signs T.d_law_cell_signs ["_law_style_here", "_law_words"] spCellSg := ok_cell_signs T
  refine T.D_law_row_right.F.ok sc_law_row_right (fun vs H Q E h => ?_) (fun cdv A outer s H vs Q E hr h => ?_)
  · obtain ⟨_, _, _, _, _, _, _, _, rfl, _⟩ := h
    rfl
  · obtain ⟨v, rv, e, p, S, bs, row, M, rfl, sv, st, ⟨ra, rus, rfl, era, lr⟩, rok, bok, ee, ep, q⟩ := h
    have lrl := lr.1
    have n8 := rok.n8
    have hM := bok.hM
    have ⟨g1, g2⟩ := rSg_len bok row.length (Nat.le_refl _)
    have fit := bok.fit
    rw [rowLn_pad S bs row M (by rw [g1, g2])] at ep
    have pl1 : (padN M (rSg S bs row row.length)).length = M := pad_len (by omega)
    have pl2 : (padN M (rCv S bs row row.length)).length = M := pad_len (by omega)
    have hb1 : (mkS (padN M (rSg S bs row row.length))).length ≤ sizeLine := by rw [mkS_len, pl1]; exact big_ok (by omega)
    have hb2 : (mkS (padN M (rCv S bs row row.length))).length ≤ sizeLine := by rw [mkS_len, pl2]; exact big_ok (by omega)
    refine ⟨_, (pss_cons (ps_asg (pv 3) (pg_tup (by rfl) (pgs_cons (pg_name (i := 4) sc_law_row_right.nd rfl (.inl rfl)) (pgs_cons (pg_name (i := 5) sc_law_row_right.nd rfl (.inl rfl)) pgs_nil))))
      (pss_cons (ps_set (i := 6) sc_law_row_right.nd rfl (.inl rfl) pe_int)
      (pss_cons (ps_set (i := 7) sc_law_row_right.nd rfl (.inl rfl) pe_int)
      (pss_cons (ps_for PassesOwn.never rfl (pi_tup (pv 1)) (pg_tup (by rfl) (pgs_cons (pg_name (i := 8) sc_law_row_right.nd rfl (.inl rfl)) (pgs_cons (pg_name (i := 9) sc_law_row_right.nd rfl (.inl rfl)) pgs_nil))) (pss_cons (ps_asg (pe_call G_law_cell_signs (hr.mono (by decide)) (by rfl) T.D_law_cell_signs.G T.D_law_cell_signs.F.kp T.D_law_cell_signs.B .nil pass0 (pa_cons (pv 0) (pa_cons (pv 9) pa_nil))) (pg_tup (by rfl) (pgs_cons (pg_name (i := 10) sc_law_row_right.nd rfl (.inl rfl)) (pgs_cons (pg_name (i := 11) sc_law_row_right.nd rfl (.inl rfl)) pgs_nil))))
      (pss_cons (ps_set (i := 12) sc_law_row_right.nd rfl (.inl rfl) (pe_callB call_len_str (by rfl) T.n_len PySem.boot_len (pa_cons (pv 10) pa_nil)))
      (pss_cons (ps_set (i := 13) sc_law_row_right.nd rfl (.inl rfl) (pe_ix ix_tup (pv 2) (pv 6) (fun _ _ => rfl)))
      (pss_cons (ps_if (PW.pt (pw_or (pt_truth (pe_bm PySem.F.plainAttrs_str PySem.F.slot_str_strip PySem.F.type_str_strip mt_stripChars (pe_slice sl_str (pv 4) (po_some (pv 7)) (po_some (pv 13))) (pa_cons pe_str pa_nil)) (by intro _; rfl)) (pw_or1 (pt_truth (pe_bm PySem.F.plainAttrs_str PySem.F.slot_str_strip PySem.F.type_str_strip mt_stripChars (pe_slice sl_str (pv 5) (po_some (pv 7)) (po_some (pv 13))) (pa_cons pe_str pa_nil)) (by intro _; rfl))))) (pss_one (ps_ret pe_bl)) pss_nil)
      (pss_cons (ps_if (PW.pt (pw_or (pt_cmpR op_ne (pe_slice sl_str (pv 4) (po_some (pv 13)) (po_some (pe_op op_add (pv 13) (pv 12)))) (pv 10) (nomark _)) (pw_or1 (pt_cmpR op_ne (pe_slice sl_str (pv 5) (po_some (pv 13)) (po_some (pe_op op_add (pv 13) (pv 12)))) (pv 11) (nomark _))))) (pss_one (ps_ret pe_bl)) pss_nil)
      (pss_cons (ps_set (i := 7) sc_law_row_right.nd rfl (.inl rfl) (pe_op op_add (pv 13) (pv 12)))
      (pss_one (ps_set (i := 6) sc_law_row_right.nd rfl (.inl rfl) (pe_op op_add (pv 6) (pv 8)))))))))))
      (pss_one (ps_ret (pe_and (pe_cmpR op_eq (pe_bm PySem.F.plainAttrs_str PySem.F.slot_str_strip PySem.F.type_str_strip mt_stripChars (pe_slice sl_str (pv 4) (po_some (pv 7)) po_none) (pa_cons pe_str pa_nil)) pe_str (nomark _)) (pe_one (pe_cmpR op_eq (pe_bm PySem.F.plainAttrs_str PySem.F.slot_str_strip PySem.F.type_str_strip mt_stripChars (pe_slice sl_str (pv 5) (po_some (pv 7)) po_none) (pa_cons pe_str pa_nil)) pe_str (nomark _)))))))))), ?_⟩
    refine ⟨_, rfl, p, _, rfl, SqT.of ep, rfl, _, _, rfl, _, _, rfl, rfl, ?_⟩
    refine ⟨_, rfl, ra, rfl, ⟨_, SqT.of era⟩, ?_⟩
    refine for_it (walk_tup (K := K) (a := ra) (xs := rus)) (fun n σ' H' => ∃ (x8 x9 x10 x11 x12 x13 : Option V), σ' = [some v, some (.ref ra), some (.ref e), some (.ref p), some (sV (padN M (rSg S bs row row.length))), some (sV (padN M (rCv S bs row row.length))), some (nV (trk row n)), some (nV (atN S bs row n)), x8, x9, x10, x11, x12, x13] ∧ Same H H') ⟨_, _, _, _, _, _, rfl, Same.refl _⟩ ?_ ?_ ?_
    · rintro i σ1 H' _ ⟨_, _, _, _, _, _, _, k⟩
      exact SqT.of (k _ _ era)
    · rintro n x σ1 Ha H2 hn ⟨x8, x9, x10, x11, x12, x13, rfl, k2⟩ ⟨rfl, hx⟩
      obtain ⟨c, ec, b, wt, wus, rfl, eb, ewt, lw⟩ := lr.at hx
      have hn2 : n < row.length := by omega
      have ec := Option.some.inj ((celAt_at hn2).symm.trans ec)
      subst ec
      have ⟨c1, wok⟩ := rok.at hn2
      have up := bok.up n hn2
      have hi := bok.hi n hn2
      have ⟨lS, lC⟩ := rSg_len bok n (by omega)
      have aM := atN_M bok (show n + 1 ≤ row.length by omega)
      have aMe : atN S bs row (n + 1) = bs.getD (trk row n) 0 + (wSg S (celAt row n).2 (celAt row n).2.length).length := rfl
      have wl := wCv_len S (celAt row n).2 (celAt row n).2.length
      have gb : (bs.map nV)[trk row n]? = some (nV (bs.getD (trk row n) 0)) := by
        rw [List.getElem?_map, List.getElem?_eq_getElem hi, List.getD_eq_getElem?_getD, List.getElem?_eq_getElem hi]; rfl
      obtain ⟨R1, R2, f1, f2⟩ := row_cut (S := S) (bs := bs) (M := M) hn2
      rw [aMe] at aM
      have ts := trk_succ hn2
      refine ⟨b, _, rfl, SqT.of (k2 _ _ eb), rfl, _, _, rfl, _, _, rfl, rfl, ?_⟩
      refine ⟨_, rfl, _, rfl, v, wt, wus, S, (celAt row n).2, rfl, sv.mono (same_tup k2), st, k2 _ _ ewt, lw.mono fun _ _ z => z.kt (same_tup k2), wok, fun H3 r k3 er => ?_⟩
      have k23 := k2.trans k3
      generalize hB : bs.getD (trk row n) 0 = B at up gb aM aMe f1 f2
      generalize hW : wSg S (celAt row n).2 (celAt row n).2.length = W at er aM aMe wl f1
      generalize hC : wCv S (celAt row n).2 (celAt row n).2.length = C at er wl f2
      have hbW : (mkS W).length ≤ sizeLine := by rw [mkS_len]; exact big_ok (by omega)
      generalize hA1 : padN M (rSg S bs row row.length) = A1 at f1 hb1
      generalize hA2 : padN M (rCv S bs row row.length) = A2 at f2 hb2
      have s1 : Txt.stripChars (cutS (mkS A1) (some (atN S bs row n : Int)) (some (B : Int))) (" " : Str) = mkS [] := by
        rw [f1]; exact strip_seg lS (by omega) rfl
      have s2 : Txt.stripChars (cutS (mkS A2) (some (atN S bs row n : Int)) (some (B : Int))) (" " : Str) = mkS [] := by
        rw [f2]; exact strip_seg lC (by omega) rfl
      have c1 : cutS (mkS A1) (some (B : Int)) (some ((B : Int) + (W.length : Int))) = mkS W := by
        rw [f1, ← List.append_assoc, show (B : Int) + (W.length : Int) = ((B + W.length : Nat) : Int) from rfl]
        exact seg_is (by rw [List.length_append, List.length_replicate, lS]; omega) rfl
      have c2 : cutS (mkS A2) (some (B : Int)) (some ((B : Int) + (W.length : Int))) = mkS C := by
        rw [f2, ← List.append_assoc, show (B : Int) + (W.length : Int) = ((B + W.length : Nat) : Int) from rfl]
        exact seg_is (by rw [List.length_append, List.length_replicate, lC]; omega) (by rw [wl])
      refine ⟨r, _, rfl, SqT.of er, rfl, _, _, rfl, _, _, rfl, rfl, ?_⟩
      refine ⟨_, rfl, mkS W, rfl, hbW, ?_⟩
      refine ⟨.ref e, by kernel_rfl, nV (trk row n), by kernel_rfl, e, _, _, _, rfl, rfl, SqT.of (k23 _ _ ee), atI_nat gb, ?_⟩
      have lW : ((mkS W).length : Int) = (W.length : Int) := by rw [mkS_len]
      rw [lW]
      dsimp only [tSeq, tNext, gName, tAsg]
      refine ifs_orH (fun R h => ⟨_, rfl, _, rfl, _, rfl, _, rfl, _, rfl, mkS A1, rfl, hb1, rfl, _, _, rfl, rfl, Nat.le_trans (cutS_length _ _ _) hb1, false, ?_, h⟩) (fun R h => ⟨_, rfl, _, rfl, _, rfl, _, rfl, _, rfl, mkS A2, rfl, hb2, rfl, _, _, rfl, rfl, Nat.le_trans (cutS_length _ _ _) hb2, false, ?_, h _ (Same.refl _)⟩) (fun H4 k4 => ?_)
      · rw [s1]; exact ⟨by rw [mkS_len]; exact Nat.zero_le _, rfl⟩
      · rw [s2]; exact ⟨by rw [mkS_len]; exact Nat.zero_le _, rfl⟩
      dsimp only [tSeq, tNext, gName, tAsg]
      refine ifs_orH (fun R h => ⟨_, rfl, _, rfl, _, rfl, _, rfl, _, rfl, _, _, rfl, rfl, _, rfl, mkS A1, rfl, hb1, _, rfl, rfl, false, ?_, h⟩) (fun R h => ⟨_, rfl, _, rfl, _, rfl, _, rfl, _, rfl, _, _, rfl, rfl, _, rfl, mkS A2, rfl, hb2, _, rfl, rfl, false, ?_, h _ (Same.refl _)⟩) (fun H5 k5 => ?_)
      · rw [c1]; exact congrArg (fun z => V.bl (!z)) (decide_eq_true rfl)
      · rw [c2]; exact congrArg (fun z => V.bl (!z)) (decide_eq_true rfl)
      refine ⟨_, rfl, _, rfl, _, _, rfl, rfl, _, rfl, _, rfl, _, _, rfl, rfl, ?_⟩
      have u1 : V.int ((trk row n : Int) + ((celAt row n).1 : Int)) = nV (trk row (n + 1)) := congrArg V.int (by rw [ts]; omega)
      have u2 : V.int ((B : Int) + (W.length : Int)) = nV (atN S bs row (n + 1)) := congrArg V.int (by rw [aMe]; omega)
      exact ⟨some (nV (celAt row n).1), some (.ref wt), some (sV W), some (sV C), some (V.int (W.length : Nat)), some (nV B), congr (congrArg (fun y7 y8 => [some v, some (V.ref ra), some (.ref e), some (.ref p), some (sV A1), some (sV A2), some y7, some y8, some (nV (celAt row n).1), some (.ref wt), some (sV W), some (sV C), some (V.int (W.length : Nat)), some (nV B)]) u1) u2, (k23.trans k4).trans k5⟩
    · rintro σ1 H2 ⟨x8, x9, x10, x11, x12, x13, rfl, k2⟩
      rw [lrl]
      have e1 : padN M (rSg S bs row row.length) = rSg S bs row row.length ++ List.replicate (M - (rSg S bs row row.length).length) 32 := rfl
      have e2 : padN M (rCv S bs row row.length) = rCv S bs row row.length ++ List.replicate (M - (rCv S bs row row.length).length) 32 := rfl
      have s1 : Txt.stripChars (cutS (mkS (padN M (rSg S bs row row.length))) (some (atN S bs row row.length : Int)) none) (" " : Str) = ("" : Str) := by
        rw [e1, strip_end g1]; rfl
      have s2 : Txt.stripChars (cutS (mkS (padN M (rCv S bs row row.length))) (some (atN S bs row row.length : Int)) none) (" " : Str) = ("" : Str) := by
        rw [e2, strip_end g2]; rfl
      generalize padN M (rSg S bs row row.length) = A1 at s1 hb1
      generalize padN M (rCv S bs row row.length) = A2 at s2 hb2
      refine ⟨_, rfl, _, rfl, _, rfl, mkS A1, rfl, hb1, rfl, _, _, rfl, rfl, Nat.le_trans (cutS_length _ _ _) hb1, rfl, true, ?_, ?_⟩
      · rw [s1]; exact congrArg V.bl (decide_eq_true rfl)
      refine ⟨_, rfl, _, rfl, _, rfl, mkS A2, rfl, hb2, rfl, _, _, rfl, rfl, Nat.le_trans (cutS_length _ _ _) hb2, rfl, ?_⟩
      rw [s2, decide_eq_true rfl]
      exact q H2 k2
end
end Vf

set_option Elab.async false
set_option linter.all false
set_option maxRecDepth 100000
set_option maxHeartbeats 4000000
namespace Vf
open PySem PySem.Spec PyProof.Rows L2 TL
/-! ### rows of texts as data -/
def dT (l : List (List Nat)) : PyData := .list (l.map fun z => .str (mkS z))
theorem dpa_t {K : PySem.W.Frag} {H : Hp} : ∀ l : List (List Nat), DpAll K H (l.map sV) (l.map fun z => .str (mkS z))
  | [] => .nil
  | z :: l => .cons (.str (mkS z)) (dpa_t l)
theorem eqvA_t : ∀ l : List (List Nat), PyData.eqvAll (l.map fun z => .str (mkS z)) (l.map fun z => .str (mkS z)) = true
  | [] => rfl
  | z :: l => by
    show (PyData.eqv (.str (mkS z)) (.str (mkS z)) && PyData.eqvAll (l.map fun z => .str (mkS z)) (l.map fun z => .str (mkS z))) = true
    rw [eqvA_t l, Bool.and_true]
    show decide (mkS z = mkS z) = true
    exact decide_eq_true rfl
theorem eqv_t (l : List (List Nat)) : PyData.eqv (dT l) (dT l) = true := eqvA_t l
def Sml (z : List Nat) : Prop := ∀ c ∈ z, c < 1114112
theorem sml_ok {z : List Nat} (h : Sml z) : PyData.strOk (mkS z) = true := by
  unfold PyData.strOk
  show (mkS z).cps.all (fun c => decide (c < 0x110000)) = true
  rw [Array.all_eq_true']
  intro x hx
  exact decide_eq_true (h x (by simpa [mkS] using hx))
theorem Sml.app {a b : List Nat} (h : Sml a) (k : Sml b) : Sml (a ++ b) := fun c hc => (List.mem_append.mp hc).elim (h c) (k c)
theorem sml_rep {n c : Nat} (h : c < 1114112) : Sml (List.replicate n c) := fun x hx => by rw [List.eq_of_mem_replicate hx]; exact h
theorem sml_get {z : List Nat} (h : Sml z) (k : Nat) : z.getD k 0 < 1114112 := by
  rw [List.getD_eq_getElem?_getD]
  cases e : z[k]? with
  | none => decide
  | some c => exact h c (List.mem_of_getElem? e)
theorem sml_pt {S : Sty} {z : List Nat} (h : WdOk z) : Sml (ptW S z) := by
  intro c hc
  unfold ptW pieceN at hc
  rcases List.mem_append.mp hc with hc | hc
  · obtain ⟨k, _, hk⟩ := List.mem_flatMap.mp hc
    rcases List.mem_cons.mp hk with e | e
    · rw [e]; exact sml_get h.ok k
    · rw [List.eq_of_mem_replicate e]; decide
  · rw [if_neg (Nat.lt_irrefl _)] at hc
    cases hc
theorem sml_w {S : Sty} {ws : List Wrd} (ok : WsOk ws) : ∀ t, t ≤ ws.length → Sml (wSg S ws t)
  | 0, _ => fun c hc => by cases hc
  | t + 1, h => by
    rw [wSg_succ]
    exact ((sml_w ok t (by omega)).app (sml_rep (by decide))).app (sml_pt (ok.at (t := t) (by omega)).1)
theorem sml_r {S : Sty} {bs : List Nat} {row : List Cel} (ok : RwOk row) : ∀ n, n ≤ row.length → Sml (rSg S bs row n)
  | 0, _ => fun c hc => by cases hc
  | n + 1, h => by
    rw [rSg_succ]
    exact ((sml_r ok n (by omega)).app (sml_rep (by decide))).app (sml_w (ok.at (t := n) (by omega)).2 _ (Nat.le_refl _))
theorem sml_cov {z1 z2 : List Nat} (h : Sml z1) (n : Nat) : Sml (covN z1 z2 n) := fun c hc => by
  unfold covN at hc
  obtain ⟨k, _, rfl⟩ := List.mem_map.mp hc
  show (if z2.getD k 0 = 35 then 35 else z1.getD k 0) < 1114112
  split
  · decide
  · exact sml_get h k
theorem lay_t : ∀ l : List (List Nat), (∀ z ∈ l, Sml z) → PyData.canLayAll0 (l.map fun z => .str (mkS z)) = true
  | [], _ => rfl
  | z :: l, h => by
    simp only [List.map_cons, PyData.canLayAll0, Bool.and_eq_true]
    exact ⟨by simp only [PyData.canLay0]; exact sml_ok (h z List.mem_cons_self), lay_t l fun x hx => h x (List.mem_cons_of_mem _ hx)⟩
theorem dep_t : ∀ l : List (List Nat), PyData.depthAll (l.map fun z => .str (mkS z)) ≤ 1
  | [] => by decide
  | z :: l => by
    have := dep_t l
    simp only [List.map_cons, PyData.depthAll]
    show max (PyData.depth (.str (mkS z))) _ ≤ 1
    simp only [PyData.depth]
    omega
theorem shaped_t {l : List (List Nat)} (h : ∀ z ∈ l, Sml z) : SeqAt.shaped (dT l) = true :=
  Bool.and_eq_true_iff.mpr ⟨by unfold dT; simp only [PyData.canLay0]; exact lay_t l h, decide_eq_true (by have := dep_t l; unfold dT; simp only [PyData.depth]; omega)⟩
theorem setL_at {S : Sty} {Y : Tbl} {M k : Nat} {row : List Cel} (h : Y[k]? = some row) : (setL S Y M)[k]? = some (rowLn S (bl (celsA S Y) (ntr Y)) row M) := by
  unfold setL
  rw [List.getElem?_map, h]; rfl
def covL (cs : List (List Nat × List Nat)) : List (List Nat) := cs.map fun c => covN c.1 c.2 c.1.length
theorem sml_L {S : Sty} {Y : Tbl} {M : Nat} (ok : TbOk Y) (hM : M ≤ 20000) (hf : bN (celsA S Y) (ntr Y) ≤ M + 1) : ∀ z ∈ covL (setL S Y M), Sml z := fun z hz => by
  obtain ⟨c, hc, rfl⟩ := List.mem_map.mp hz
  obtain ⟨row, hr, rfl⟩ := List.mem_map.mp hc
  have rok := ok.rw row hr
  have b := bs_ok (S := S) ok hM hf hr
  have ⟨l1, l2⟩ := rSg_len b row.length (Nat.le_refl _)
  refine sml_cov ?_ _
  rw [rowLn_pad S _ row M (by rw [l1, l2])]
  exact (sml_r rok _ (Nat.le_refl _)).app (sml_rep (by decide))
theorem covL_take {cs : List (List Nat × List Nat)} {n : Nat} {c : List Nat × List Nat} (h : cs[n]? = some c) : covL (cs.take (n + 1)) = covL (cs.take n) ++ [covN c.1 c.2 c.1.length] := by
  unfold covL
  rw [List.take_succ, h, List.map_append]; rfl
/-- both tables are seen alike -/
theorem covL_ex {S : Sty} (nb : NoBN S) {Y : Tbl} {M : Nat} (ok : TbOk Y) (hM : M ≤ 20000) (hf : bN (celsA S Y) (ntr Y) ≤ M + 1) : covL (setL S (exT S Y) M) = covL (setL S Y M) := by
  unfold covL setL
  rw [celsA_ex nb ok.rw, ntr_ex]
  unfold exT
  rw [List.map_map, List.map_map, List.map_map]
  refine List.map_congr_left fun row hr => ?_
  have rok := ok.rw row hr
  have b := bs_ok (S := S) ok hM hf hr
  have b2 := bs_ok (S := S) (Y := exT S Y) (row := row.map (exC S)) (M := M) (tbOk_ex nb ok) hM (by rw [celsA_ex nb ok.rw, ntr_ex]; exact hf) (List.mem_map.mpr ⟨row, hr, rfl⟩)
  rw [celsA_ex nb ok.rw, ntr_ex] at b2
  have ⟨l1, l2⟩ := rowLn_len b
  have ⟨l3, l4⟩ := rowLn_len b2
  show covN (rowLn S _ (row.map (exC S)) M).1 (rowLn S _ (row.map (exC S)) M).2 _ = covN (rowLn S _ row M).1 (rowLn S _ row M).2 _
  rw [covN_Z (by rw [l3, l4]), covN_Z (by rw [l1, l2])]
  exact cov_ex nb rok b
section
variable {P : Program} {w : World} {K : PySem.W.Frag} {mg : Str → Option Value} {base : Heap}
def spStrR : Sp := fun vs H Q _ => ∃ (v y : V) (e : Addr) (S : Sty) (Y : Tbl) (M : Nat), vs = [v, y, .ref e] ∧ StyV H v S ∧ StyOk S ∧ NoBN S ∧ S.m = (M : Int) ∧ TbV H y Y ∧ TbOk Y ∧ H e = some (.tup ((bl (celsA S Y) (ntr Y)).map nV)) ∧ M ≤ 20000 ∧ ∀ H', Same H H' → Q (.bl true) H'
theorem ok_strips_right (T : Txt K mg) : FnOk P w K mg base CX0 13 T.a_law_strips_right T.d_law_strips_right ["_law_style_here", "_law_rows", "_law_told_here"] spStrR := by
  have G_law_told : FnOk P w K mg base CX0 12 T.a_law_told T.d_law_told ["_law_style_here", "_law_rows"] spToldT := ok_lawtold T
  have G_law_exact : FnOk P w K mg base CX0 5 T.a_law_exact T.d_law_exact ["_law_told_here", "_law_due"] (spExact 4) := ok_exact T 4
  have G_law_like : FnOk P w K mg base CX0 1 T.a_law_like T.d_law_like ["_law_told_here", "_law_many", "_law_wide"] spLike := ok_like T
  have G_law_row_right : FnOk P w K mg base CX0 3 T.a_law_row_right T.d_law_row_right ["_law_style_here", "_law_row", "_law_told_here", "_law_strip"] spRowR := ok_row_right T
  have G_law_exchanged : FnOk P w K mg base CX0 2 T.a_law_exchanged T.d_law_exchanged ["_law_style_here", "_law_words"] spExch := ok_exchanged T
  have G_law_covered : FnOk P w K mg base CX0 1 T.a_law_covered T.d_law_covered ["_law_strip"] spCov := ok_covered T
  refine T.D_law_strips_right.F.ok sc_law_strips_right (fun vs H Q E h => ?_) (fun cdv A outer s H vs Q E hr h => ?_)
  · obtain ⟨_, _, _, _, _, _, rfl, _⟩ := h
    rfl
  · obtain ⟨v, y, e, S, Y, M, rfl, sv, st, nb, em, ⟨ta, us, rfl, et, lv⟩, ok, ee, hM, q⟩ := h
    have n12 := ok.n12
    have lus := lv.1
    have tb : TbV H (.ref ta) Y := ⟨ta, us, rfl, et, lv⟩
    obtain ⟨va, wv, cv, bv, pr, rfl, ev, rw1, rc, rb⟩ := id sv
    rw [em] at ev
    refine ⟨_, (pss_cons (ps_set (i := 3) sc_law_strips_right.nd rfl (.inl rfl) (pe_call G_law_told (hr.mono (by decide)) (by rfl) T.D_law_told.G T.D_law_told.F.kp T.D_law_told.B .nil pass0 (pa_cons (pv 0) (pa_cons (pv 1) pa_nil))))
      (pss_cons (ps_if (pt_cmpR op_gt (pe_op op_sub (pe_ix ix_tup (pv 2) (pe_un un_neg pe_int) (fun _ _ => rfl)) pe_int) (pe_ix ix_tup (pv 0) pe_int (fun _ _ => rfl)) (nomark _)) (pss_one (ps_ret (pe_call G_law_exact (hr.mono (by decide)) (by rfl) T.D_law_exact.G T.D_law_exact.F.kp T.D_law_exact.B .nil pass0 (pa_cons (pv 3) (pa_cons (pe_tup (pa_cons pe_str (pa_cons (pe_tup (pa_cons pe_str (pa_cons pe_str pa_nil))) pa_nil))) pa_nil))))) pss_nil)
      (pss_cons (ps_if (PW.pt (pw_or (pt_cmpR op_ne (pe_ix ix_tup (pv 3) pe_int (fun _ _ => rfl)) pe_str (nomark _)) (pw_or1 (pt_not (pt_val (pe_call G_law_like (hr.mono (by decide)) (by rfl) T.D_law_like.G T.D_law_like.F.kp T.D_law_like.B .nil pass0 (pa_cons (pe_ix ix_tup (pv 3) pe_int (fun _ _ => rfl)) (pa_cons (pe_callB call_len_seq (by rfl) T.n_len PySem.boot_len (pa_cons (pv 1) pa_nil)) (pa_cons (pe_ix ix_tup (pv 0) pe_int (fun _ _ => rfl)) pa_nil))))))))) (pss_one (ps_ret pe_bl)) pss_nil)
      (pss_cons (ps_for PassesOwn.never rfl (pi_range1 (by rfl) T.n_range (pa_cons (pe_callB call_len_seq (by rfl) T.n_len PySem.boot_len (pa_cons (pv 1) pa_nil)) pa_nil)) (pg_name (i := 4) sc_law_strips_right.nd rfl (.inl rfl)) (pss_one (ps_if (pt_not (pt_val (pe_call G_law_row_right (hr.mono (by decide)) (by rfl) T.D_law_row_right.G T.D_law_row_right.F.kp T.D_law_row_right.B .nil pass0 (pa_cons (pv 0) (pa_cons (pe_ix ix_tup (pv 1) (pv 4) (fun _ _ => rfl)) (pa_cons (pv 2) (pa_cons (pe_ix ix_tup (pe_ix ix_tup (pv 3) pe_int (fun _ _ => rfl)) (pv 4) (fun _ _ => rfl)) pa_nil))))))) (pss_one (ps_ret pe_bl)) pss_nil)))
      (pss_cons (ps_set (i := 5) sc_law_strips_right.nd rfl (.inl rfl) (pe_lst pa_nil))
      (pss_cons (ps_for PassesOwn.never rfl (pi_tup (pv 1)) (pg_name (i := 6) sc_law_strips_right.nd rfl (.inl rfl)) (pss_one (ps_expr (pe_bm PySem.F.plainAttrs_list PySem.F.slot_list_append PySem.F.type_list_append mt_append (pv 5) (pa_cons (pe_callTy call_tuple_of (by rfl) T.n_tuple (by decide +kernel) (pa_cons (pe_lc (own := [("_law_span", 8), ("_law_words", 9)]) (g := (gTup K 2 (gCons (gName 8) (gCons (gName 9) gNil)))) (tt := tYes) rfl sc_law_strips_right.nd (pi_tup (pv 6)) (blkOk_by (own := [("_law_span", 8), ("_law_words", 9)]) (N := ["_law_style_here", "_law_rows", "_law_told_here", "_law_answer", "_law_k", "_law_others", "_law_row", "_law_again", "_law_span", "_law_words", "_law_strip"]) (sc := (defScope s_law_strips_right)) (by decide +kernel)) (fun _ _ _ _ _ => (pg_tup (by rfl) (pgs_cons (pg_name (i := 8) sc_law_strips_right.nd rfl (.inl rfl)) (pgs_cons (pg_name (i := 9) sc_law_strips_right.nd rfl (.inl rfl)) pgs_nil)))) (fun _ _ _ _ _ => pts_nil) (fun _ _ _ _ _ => (pe_tup (pa_cons (pv 8) (pa_cons (pe_call G_law_exchanged (hr.mono (by decide)) (by rfl) T.D_law_exchanged.G T.D_law_exchanged.F.kp T.D_law_exchanged.B .nil pass0 (pa_cons (pv 0) (pa_cons (pv 9) pa_nil))) pa_nil))))) pa_nil)) pa_nil)))))
      (pss_cons (ps_set (i := 7) sc_law_strips_right.nd rfl (.inl rfl) (pe_call G_law_told (hr.mono (by decide)) (by rfl) T.D_law_told.G T.D_law_told.F.kp T.D_law_told.B .nil pass0 (pa_cons (pv 0) (pa_cons (pe_callTy call_tuple_of (by rfl) T.n_tuple (by decide +kernel) (pa_cons (pv 5) pa_nil)) pa_nil))))
      (pss_cons (ps_if (PW.pt (pw_or (pt_cmpR op_ne (pe_ix ix_tup (pv 7) pe_int (fun _ _ => rfl)) pe_str (nomark _)) (pw_or1 (pt_not (pt_val (pe_call G_law_like (hr.mono (by decide)) (by rfl) T.D_law_like.G T.D_law_like.F.kp T.D_law_like.B .nil pass0 (pa_cons (pe_ix ix_tup (pv 7) pe_int (fun _ _ => rfl)) (pa_cons (pe_callB call_len_seq (by rfl) T.n_len PySem.boot_len (pa_cons (pv 1) pa_nil)) (pa_cons (pe_ix ix_tup (pv 0) pe_int (fun _ _ => rfl)) pa_nil))))))))) (pss_one (ps_ret pe_bl)) pss_nil)
      (pss_one (ps_ret (pe_cmpR (op_eqD (Room.units hr)) (pe_lc (own := [("_law_strip", 10)]) (g := gName 10) (tt := tYes) rfl sc_law_strips_right.nd (pi_tup (pe_ix ix_tup (pv 7) pe_int (fun _ _ => rfl))) (blkOk_by (own := [("_law_strip", 10)]) (N := ["_law_style_here", "_law_rows", "_law_told_here", "_law_answer", "_law_k", "_law_others", "_law_row", "_law_again", "_law_span", "_law_words", "_law_strip"]) (sc := (defScope s_law_strips_right)) (by decide +kernel)) (fun _ _ _ _ _ => (pg_name (i := 10) sc_law_strips_right.nd rfl (.inl rfl))) (fun _ _ _ _ _ => pts_nil) (fun _ _ _ _ _ => (pe_call G_law_covered (hr.mono (by decide)) (by rfl) T.D_law_covered.G T.D_law_covered.F.kp T.D_law_covered.B .nil pass0 (pa_cons (pv 10) pa_nil)))) (pe_lc (own := [("_law_strip", 10)]) (g := gName 10) (tt := tYes) rfl sc_law_strips_right.nd (pi_tup (pe_ix ix_tup (pv 3) pe_int (fun _ _ => rfl))) (blkOk_by (own := [("_law_strip", 10)]) (N := ["_law_style_here", "_law_rows", "_law_told_here", "_law_answer", "_law_k", "_law_others", "_law_row", "_law_again", "_law_span", "_law_words", "_law_strip"]) (sc := (defScope s_law_strips_right)) (by decide +kernel)) (fun _ _ _ _ _ => (pg_name (i := 10) sc_law_strips_right.nd rfl (.inl rfl))) (fun _ _ _ _ _ => pts_nil) (fun _ _ _ _ _ => (pe_call G_law_covered (hr.mono (by decide)) (by rfl) T.D_law_covered.G T.D_law_covered.F.kp T.D_law_covered.B .nil pass0 (pa_cons (pv 10) pa_nil)))) (nomark _)))))))))))), ?_⟩
    refine ⟨_, rfl, _, rfl, .ref va, .ref ta, S, Y, M, rfl, sv, st, em, tb, ok, hM, fun H1 x k1 ax => ?_⟩
    dsimp only [tSeq, tNext, gName, tAsg]
    refine ifs_of (p := (M : Int) < (bN (celsA S Y) (ntr Y) : Int) - 1) (fun R h => ⟨.ref e, rfl, 1, rfl, e, _, -1, _, rfl, rfl, SqT.of (k1 _ _ ee), bl_last _ _, _, _, rfl, rfl, .ref va, rfl, va, _, 0, _, rfl, rfl, SqT.of (k1 _ _ ev), rfl, _, _, rfl, rfl, _, rfl, h⟩) (fun cc => ?_) (fun cc => ?_)
    · refine ⟨x, rfl, by show 2 ≤ sizeLine; decide, fun p4 np4 => ?_⟩
      have k4 := same_upd (o := .tup [V.str (("TooWide" : Str)), .str ("table" : Str)]) (Same.refl H1) np4
      have e4 : upd H1 p4 (.tup [V.str (("TooWide" : Str)), .str ("table" : Str)]) p4 = some (.tup [V.str (("TooWide" : Str)), .str ("table" : Str)]) := upd_same
      generalize upd H1 p4 (.tup [V.str (("TooWide" : Str)), .str ("table" : Str)]) = H4 at k4 e4
      refine ⟨by show 2 ≤ sizeLine; decide, fun p5 np5 => ?_⟩
      have k5 := same_upd (o := .tup [V.str (("refused" : Str)), .ref p4]) (Same.refl H4) np5
      have e5 : upd H4 p5 (.tup [V.str (("refused" : Str)), .ref p4]) p5 = some (.tup [V.str (("refused" : Str)), .ref p4]) := upd_same
      have e4' := k5 _ _ e4
      generalize upd H4 p5 (.tup [V.str (("refused" : Str)), .ref p4]) = H5 at k5 e5 e4'
      have k45 := k4.trans k5
      exact ⟨x, .ref p5, rfl, eqAskT (ax.kt (same_tup k45)) ⟨fun c => by omega, fun _ => ⟨p5, p4, rfl, e5, e4'⟩⟩ n12, q _ (k1.trans k45)⟩
    have hfit : bN (celsA S Y) (ntr Y) ≤ M + 1 := by omega
    obtain ⟨B, z, rfl, eB, t, ws, rfl, ett, lw⟩ := ax.1 hfit
    have lwl := lw.1
    have csl : (setL S Y M).length = Y.length := by unfold setL; rw [List.length_map]
    have hcs : ∀ c ∈ setL S Y M, c.1.length = M ∧ c.2.length = M := fun c hc => by
      obtain ⟨row, hr, rfl⟩ := List.mem_map.mp hc
      exact rowLn_len (bs_ok ok hM hfit hr)
    dsimp only [tSeq, tNext, gName, tAsg]
    refine ifs_orH (fun R h => ⟨_, rfl, B, _, 0, _, rfl, rfl, SqT.of eB, rfl, rfl, false, congrArg (fun z => V.bl (!z)) (decide_eq_true rfl), h⟩) (fun R h => ⟨_, rfl, B, _, 1, _, rfl, rfl, SqT.of eB, rfl, _, rfl, ta, _, rfl, .inr (SqT.of (k1 _ _ et)), .ref va, rfl, va, _, 0, _, rfl, rfl, SqT.of (k1 _ _ ev), rfl, t, ws, setL S Y M, M, by rw [csl, lus]; rfl, ett, lw, hcs, hM, true, rfl, h _ (Same.refl _)⟩) (fun H2 k2 => ?_)
    have k12 := k1.trans k2
    have hl1 : ∀ {α : Type} (l : List α) (i : Nat) (h : i < l.length), l[i]? = some l[i] := fun l i h => List.getElem?_eq_getElem h
    refine ⟨_, rfl, ta, _, rfl, .inr (SqT.of (k12 _ _ et)), (us.length : Int), rfl, by omega, by omega, ?_⟩
    rw [Int.toNat_natCast]
    refine for_it walk_range (fun i σ' H' => ∃ (x4 x5 x6 x7 x8 x9 x10 : Option V), σ' = [some (.ref va), some (.ref ta), some (.ref e), some (.ref B), x4, x5, x6, x7, x8, x9, x10] ∧ Same H2 H') ⟨_, _, _, _, _, _, _, rfl, Same.refl _⟩ (fun _ _ _ _ _ => trivial) ?_ ?_
    · rintro i x σ' Ha H3 hi ⟨x4, x5, x6, x7, x8, x9, x10, rfl, k3⟩ ⟨rfl, hx⟩
      have hx : x = nV i := by rw [hx]; exact int0 i
      subst hx
      have hi2 : i < Y.length := by omega
      have k13 := k12.trans k3
      have hrow : Y[i] ∈ Y := List.getElem_mem hi2
      obtain ⟨xr, exr, hrv⟩ := lv.2 i _ (hl1 Y i hi2)
      obtain ⟨xs_, exs, b, rfl, eb⟩ := lw.2 i _ (setL_at (S := S) (M := M) (hl1 Y i hi2))
      refine ⟨_, rfl, _, rfl, _, rfl, ta, _, _, _, rfl, rfl, SqT.of (k13 _ _ et), atI_nat exr, _, rfl, _, rfl, B, _, 1, _, rfl, rfl, SqT.of ((k2.trans k3) _ _ eB), rfl, _, rfl, t, _, _, _, rfl, rfl, SqT.of ((k2.trans k3) _ _ ett), atI_nat exs, ?_⟩
      refine ⟨.ref va, xr, e, b, S, _, Y[i], M, rfl, sv.mono (same_tup k13), st, hrv.kt (same_tup k13), ok.rw _ hrow, bs_ok ok hM hfit hrow, k13 _ _ ee, (k2.trans k3) _ _ eb, fun H4 k4 => ⟨true, rfl, ?_⟩⟩
      exact ⟨_, _, _, _, _, _, _, rfl, k3.trans k4⟩
    rintro σ' H3 ⟨x4, x5, x6, x7, x8, x9, x10, rfl, k3⟩
    have k13 := k12.trans k3
    refine ⟨by show 0 ≤ sizeLine; decide, fun D nD => ?_⟩
    have k4 := same_upd (o := .lst []) (Same.refl H3) nD
    have eD : upd H3 D (.lst []) D = some (.lst []) := upd_same
    generalize upd H3 D (.lst []) = H4 at k4 eD
    refine ⟨_, rfl, ta, rfl, ⟨_, SqT.of (k4 _ _ (k13 _ _ et))⟩, ?_⟩
    refine for_it (walk_tup (K := K) (a := ta) (xs := us)) (fun n σ' H' => ∃ (x6 x7 x8 x9 x10 : Option V) (zs : List V), σ' = [some (.ref va), some (.ref ta), some (.ref e), some (.ref B), x4, some (.ref D), x6, x7, x8, x9, x10] ∧ Same H3 H' ∧ H' D = some (.lst zs) ∧ LV (RowV H') zs (exT S (Y.take n))) ⟨_, _, _, _, _, [], rfl, k4, eD, LV.nil⟩ ?_ ?_ ?_
    · rintro i σ1 H' _ ⟨_, _, _, _, _, _, _, k, _⟩
      exact SqT.of (k _ _ (k13 _ _ et))
    · rintro n x σ1 Ha H5 hn ⟨x6, x7, x8, x9, x10, zs, rfl, k5, eD5, lz⟩ ⟨rfl, hx⟩
      obtain ⟨row, er, ra, rus, rfl, era, lr⟩ := lv.at hx
      have hrow : row ∈ Y := List.mem_of_getElem? er
      have rok := ok.rw row hrow
      have n8 := rok.n8
      have lrl := lr.1
      have lzl := lz.1
      unfold exT at lzl
      rw [List.length_map, List.length_take] at lzl
      have k15 := k13.trans k5
      have era5 := k15 _ _ era
      refine ⟨.ref D, rfl, .inl ⟨rfl, _, .inl (.inl eD5)⟩, ?_⟩
      refine ⟨_, rfl, ra, rfl, ⟨_, SqT.of era5⟩, fun F nF => ?_⟩
      refine lc_it (walk_tup (K := K) (a := ra) (xs := rus)) (fun u H' => ∃ ws2, Same H5 H' ∧ H' F = some (.lst ws2) ∧ LV (CelV H') ws2 ((row.take u).map (exC S))) ⟨[], same_upd (Same.refl H5) nF, upd_same, LV.nil⟩ ?_ ?_ ?_
      · rintro i H' _ ⟨_, k, _⟩
        exact SqT.of (k _ _ era5)
      · rintro u x Hb H6 hu ⟨ws2, k6, eF, lw2⟩ ⟨rfl, hx⟩
        obtain ⟨c, ec, b, wt, wus, rfl, eb, ewt, lwt⟩ := lr.at hx
        have hc := List.mem_of_getElem? ec
        have ⟨c1, wok⟩ := rok.sp c hc
        have lw2l := lw2.1
        rw [List.length_map, List.length_take] at lw2l
        have k16 := k15.trans k6
        refine ⟨b, _, rfl, SqT.of (k16 _ _ eb), rfl, _, _, rfl, _, _, rfl, rfl, by kernel_rfl, ?_⟩
        refine ⟨nV c.1, by kernel_rfl, .ref va, by kernel_rfl, .ref wt, by kernel_rfl, .ref va, wt, wus, S, c.2, rfl, sv.mono (same_tup k16), st, nb, k16 _ _ ewt, lwt.mono fun _ _ z => z.kt (same_tup k16), wok, fun H7 p us' k7 ep lp => ?_⟩
        refine ⟨by show 2 ≤ sizeLine; decide, fun r nr => ?_⟩
        have k8 := same_upd (o := .tup [nV c.1, .ref p]) (Same.refl H7) nr
        have er8 : upd H7 r (.tup [nV c.1, .ref p]) r = some (.tup [nV c.1, .ref p]) := upd_same
        generalize upd H7 r (.tup [nV c.1, .ref p]) = H8 at k8 er8
        have eF8 := k8 _ _ (k7 _ _ eF)
        have kt := kt_mut (zs := ws2 ++ [.ref r]) eF8
        refine ⟨ws2, eF8, szN (by omega), ws2 ++ [.ref r], same_mut ((k6.trans k7).trans k8) nF, upd_same, ?_⟩
        rw [List.take_succ, ec, List.map_append]
        exact LV.snoc (lw2.mono fun _ _ z => z.kt fun a xs e => kt _ _ (k8 _ _ (k7 _ _ e))) ⟨r, p, us', rfl, kt _ _ er8, kt _ _ (k8 _ _ ep), lp.mono fun _ _ z => z.kt fun a xs e => kt _ _ (k8 _ _ e)⟩
      rintro H6 ⟨ws2, k6, eF, lw2⟩
      rw [lrl, List.take_length] at lw2
      refine ⟨F, ws2, rfl, .inl ⟨SqL.of eF, fun p np => ?_⟩⟩
      have k7 := same_upd (o := .tup ws2) (Same.refl H6) np
      have ep : upd H6 p (.tup ws2) p = some (.tup ws2) := upd_same
      generalize upd H6 p (.tup ws2) = H7 at k7 ep
      have eD7 := k7 _ _ (k6 _ _ eD5)
      have kt := kt_mut (zs := zs ++ [.ref p]) eD7
      refine ⟨D, zs, _, rfl, rfl, eD7, szN (by omega), ?_⟩
      refine ⟨_, _, _, _, _, zs ++ [.ref p], rfl, same_mut ((k5.trans k6).trans k7) nD, upd_same, ?_⟩
      unfold exT
      rw [List.take_succ, er, List.map_append]
      exact LV.snoc (lz.mono fun _ _ z => z.kt fun a xs e => kt _ _ (k7 _ _ (k6 _ _ e))) ⟨p, ws2, rfl, kt _ _ ep, lw2.mono fun _ _ z => z.kt fun a xs e => kt _ _ (k7 _ _ e)⟩
    rintro σ1 H5 ⟨x6, x7, x8, x9, x10, zs, rfl, k5, eD5, lz⟩
    rw [lus, List.take_length] at lz
    refine ⟨_, rfl, _, rfl, D, zs, rfl, .inl ⟨SqL.of eD5, fun p np => ?_⟩⟩
    have k6 := same_upd (o := .tup zs) (Same.refl H5) np
    have ep : upd H5 p (.tup zs) p = some (.tup zs) := upd_same
    have lz6 : LV (RowV (upd H5 p (.tup zs))) zs (exT S Y) := lz.mono fun _ _ z => z.kt (kt_new np)
    generalize upd H5 p (.tup zs) = H6 at k6 ep lz6
    have k16 := (k13.trans k5).trans k6
    refine ⟨.ref va, .ref p, S, exT S Y, M, rfl, sv.mono (same_tup k16), st, em, ⟨p, zs, rfl, ep, lz6⟩, tbOk_ex nb ok, hM, fun H7 x2 k7 ax2 => ?_⟩
    obtain ⟨B2, z2, rfl, eB2, t2, ws2, rfl, ett2, lw2⟩ := ax2.1 (by rw [celsA_ex nb ok.rw, ntr_ex]; exact hfit)
    have lw2l := lw2.1
    have csl2 : (setL S (exT S Y) M).length = Y.length := by unfold setL exT; rw [List.length_map, List.length_map]
    have hcs2 : ∀ c ∈ setL S (exT S Y) M, c.1.length = M ∧ c.2.length = M := fun c hc => by
      obtain ⟨row, hr, rfl⟩ := List.mem_map.mp hc
      exact rowLn_len (bs_ok (tbOk_ex nb ok) hM (by rw [celsA_ex nb ok.rw, ntr_ex]; exact hfit) hr)
    have k17 := k16.trans k7
    dsimp only [tSeq, tNext, gName, tAsg]
    refine ifs_orH (fun R h => ⟨_, rfl, B2, _, 0, _, rfl, rfl, SqT.of eB2, rfl, rfl, false, congrArg (fun z => V.bl (!z)) (decide_eq_true rfl), h⟩) (fun R h => ⟨_, rfl, B2, _, 1, _, rfl, rfl, SqT.of eB2, rfl, _, rfl, ta, _, rfl, .inr (SqT.of (k17 _ _ et)), .ref va, rfl, va, _, 0, _, rfl, rfl, SqT.of (k17 _ _ ev), rfl, t2, ws2, setL S (exT S Y) M, M, by rw [csl2, lus]; rfl, ett2, lw2, hcs2, hM, true, rfl, h _ (Same.refl _)⟩) (fun H8 k8 => ?_)
    have k18 := k17.trans k8
    have hL := covL_ex (S := S) nb ok hM hfit
    have hS := sml_L (S := S) ok hM hfit
    have n12' : (setL S Y M).length ≤ 12 := by omega
    have n12'' : (setL S (exT S Y) M).length ≤ 12 := by omega
    refine ⟨.ref B2, by kernel_rfl, B2, _, 1, _, rfl, rfl, SqT.of (k8 _ _ eB2), rfl, t2, rfl, ⟨_, SqT.of (k8 _ _ ett2)⟩, fun D1 nD1 => ?_⟩
    refine lc_it (walk_tup (K := K) (a := t2) (xs := ws2)) (fun n H' => Same H8 H' ∧ H' D1 = some (.lst ((covL ((setL S (exT S Y) M).take n)).map sV))) ⟨same_upd (Same.refl H8) nD1, upd_same⟩ ?_ ?_ ?_
    · rintro i H' _ ⟨k, _⟩
      exact SqT.of (k _ _ (k8 _ _ ett2))
    · rintro n x Ha H9 hn ⟨k9, eD1⟩ ⟨rfl, hx⟩
      obtain ⟨c, ec, b, rfl, eb⟩ := lw2.at hx
      have ⟨h1, h2⟩ := hcs2 c (List.mem_of_getElem? ec)
      refine ⟨by kernel_rfl, .ref b, by kernel_rfl, b, c.1, c.2, rfl, k9 _ _ (k8 _ _ eb), by omega, by omega, fun H10 k10 => ?_⟩
      refine ⟨_, k10 _ _ eD1, by unfold covL; rw [List.length_map, List.length_map, List.length_take]; exact szN (by omega), same_mut (k9.trans k10) nD1, ?_⟩
      rw [upd_same, covL_take ec, List.map_append]; rfl
    rintro H9 ⟨k9, eD1⟩
    rw [lw2l, List.take_length, hL] at eD1
    have k79 := k8.trans k9
    have eBz := ((((((k2.trans k3).trans k5).trans k6).trans k7).trans k8).trans k9) _ _ eB
    have etz := ((((((k2.trans k3).trans k5).trans k6).trans k7).trans k8).trans k9) _ _ ett
    have lwz := lw.mono fun _ _ z => z.kt (same_tup ((((((k2.trans k3).trans k5).trans k6).trans k7).trans k8).trans k9))
    refine ⟨.ref B, by kernel_rfl, B, _, 1, _, rfl, rfl, SqT.of eBz, rfl, t, rfl, ⟨_, SqT.of etz⟩, fun D2 nD2 => ?_⟩
    refine lc_it (walk_tup (K := K) (a := t) (xs := ws)) (fun n H' => Same H9 H' ∧ H' D2 = some (.lst ((covL ((setL S Y M).take n)).map sV))) ⟨same_upd (Same.refl H9) nD2, upd_same⟩ ?_ ?_ ?_
    · rintro i H' _ ⟨k, _⟩
      exact SqT.of (k _ _ etz)
    · rintro n x Ha H10 hn ⟨k10, eD2⟩ ⟨rfl, hx⟩
      obtain ⟨c, ec, b, rfl, eb⟩ := lwz.at hx
      have ⟨h1, h2⟩ := hcs c (List.mem_of_getElem? ec)
      refine ⟨by kernel_rfl, .ref b, by kernel_rfl, b, c.1, c.2, rfl, k10 _ _ eb, by omega, by omega, fun H11 k11 => ?_⟩
      refine ⟨_, k11 _ _ eD2, by unfold covL; rw [List.length_map, List.length_map, List.length_take]; exact szN (by omega), same_mut (k10.trans k11) nD2, ?_⟩
      rw [upd_same, covL_take ec, List.map_append]; rfl
    rintro H10 ⟨k10, eD2⟩
    rw [lwl, List.take_length] at eD2
    refine ⟨dT (covL (setL S Y M)), dT (covL (setL S Y M)), .lst (SqL.of (k10 _ _ eD1)) (dpa_t _), .lst (SqL.of eD2) (dpa_t _), shaped_t hS, shaped_t hS, ?_⟩
    rw [eqv_t]
    exact q _ ((k18.trans k9).trans k10)
end
end Vf

set_option Elab.async false
set_option linter.all false
set_option maxRecDepth 100000
set_option maxHeartbeats 4000000
namespace Vf
open PySem PySem.Spec PyProof.Rows L2 TL
section
variable {P : Program} {w : World} {K : PySem.W.Frag} {mg : Str → Option Value} {base : Heap}
def spLaw (K : PySem.W.Frag) : Sp := fun vs H Q _ => ∃ (a : Addr) (ns : List Int), vs = [.ref a] ∧ SqL K H a (ns.map V.int) ∧ ns.length ≤ 63 ∧ ∀ H', Q (.bl true) H'
theorem ok_law (T : Txt K mg) : FnOk P w K mg base CX0 14 T.a_law T.d_law ["_law_script"] (spLaw K) := by
  have G_law_begin : FnOk P w K mg base CX0 1 T.a_law_begin T.d_law_begin ["_law_script"] (spBegin K) := ok_begin T
  have G_law_style_drawn : FnOk P w K mg base CX0 4 T.a_law_style_drawn T.d_law_style_drawn ["_law_d"] spStyD := ok_style_drawn T
  have G_law_rows_drawn : FnOk P w K mg base CX0 6 T.a_law_rows_drawn T.d_law_rows_drawn ["_law_d"] spTblD := ok_table_drawn T
  have G_law_cells_of : FnOk P w K mg base CX0 3 T.a_law_cells_of T.d_law_cells_of ["_law_style_here", "_law_rows"] spCellsL := ok_lcells T
  have G_boundaries : FnOk P w K mg base CX0 2 T.a_boundaries T.d_boundaries ["tracks", "cells"] spBoundaries := ok_boundaries T
  have G_law_least : FnOk P w K mg base CX0 2 T.a_law_least T.d_law_least ["_law_tracks", "_law_cells", "_law_told_here"] spLeastT := ok_leastT T
  have G_law_not_less : FnOk P w K mg base CX0 3 T.a_law_not_less T.d_law_not_less ["_law_d", "_law_tracks", "_law_cells", "_law_told_here"] spNotLess := ok_not_less T
  have G_law_chains_right : FnOk P w K mg base CX0 4 T.a_law_chains_right T.d_law_chains_right ["_law_d", "_law_tracks", "_law_cells", "_law_told_here"] spChainsR := ok_chains_right T
  have G_law_moved_right : FnOk P w K mg base CX0 3 T.a_law_moved_right T.d_law_moved_right ["_law_d", "_law_tracks", "_law_cells", "_law_told_here"] spMoved := ok_moved T
  have G_law_strips_right : FnOk P w K mg base CX0 13 T.a_law_strips_right T.d_law_strips_right ["_law_style_here", "_law_rows", "_law_told_here"] spStrR := ok_strips_right T
  refine T.D_law.F.ok sc_law (fun vs H Q E h => ?_) (fun cdv A outer s H vs Q E hr h => ?_)
  · obtain ⟨a, ns, rfl, _⟩ := h
    rfl
  · obtain ⟨a, ns, rfl, hS, hl, q⟩ := h
    refine ⟨_, (pss_cons (ps_set (i := 1) sc_law.nd rfl (.inl rfl) (pe_call G_law_begin (hr.mono (by decide)) (by rfl) T.D_law_begin.G T.D_law_begin.F.kp T.D_law_begin.B .nil pass0 (pa_cons (pv 0) pa_nil)))
      (pss_cons (ps_set (i := 2) sc_law.nd rfl (.inl rfl) (pe_call G_law_style_drawn (hr.mono (by decide)) (by rfl) T.D_law_style_drawn.G T.D_law_style_drawn.F.kp T.D_law_style_drawn.B .nil pass0 (pa_cons (pv 1) pa_nil)))
      (pss_cons (ps_set (i := 3) sc_law.nd rfl (.inl rfl) (pe_call G_law_rows_drawn (hr.mono (by decide)) (by rfl) T.D_law_rows_drawn.G T.D_law_rows_drawn.F.kp T.D_law_rows_drawn.B .nil pass0 (pa_cons (pv 1) pa_nil)))
      (pss_cons (ps_asg (pe_call G_law_cells_of (hr.mono (by decide)) (by rfl) T.D_law_cells_of.G T.D_law_cells_of.F.kp T.D_law_cells_of.B .nil pass0 (pa_cons (pv 2) (pa_cons (pv 3) pa_nil))) (pg_tup (by rfl) (pgs_cons (pg_name (i := 4) sc_law.nd rfl (.inl rfl)) (pgs_cons (pg_name (i := 5) sc_law.nd rfl (.inl rfl)) pgs_nil))))
      (pss_cons (ps_set (i := 6) sc_law.nd rfl (.inl rfl) (pe_call G_boundaries (hr.mono (by decide)) (by rfl) T.D_boundaries.G T.D_boundaries.F.kp T.D_boundaries.B .nil pass0 (pa_cons (pv 4) (pa_cons (pv 5) pa_nil))))
      (pss_cons (ps_if (pt_not (pt_val (pe_call G_law_least (hr.mono (by decide)) (by rfl) T.D_law_least.G T.D_law_least.F.kp T.D_law_least.B .nil pass0 (pa_cons (pv 4) (pa_cons (pv 5) (pa_cons (pv 6) pa_nil)))))) (pss_one (ps_ret pe_bl)) pss_nil)
      (pss_cons (ps_for PassesOwn.never rfl (pi_range1 (by rfl) T.n_range (pa_cons pe_int pa_nil)) (pg_name (i := 7) sc_law.nd rfl (.inl rfl)) (pss_one (ps_if (pt_not (pt_val (pe_call G_law_not_less (hr.mono (by decide)) (by rfl) T.D_law_not_less.G T.D_law_not_less.F.kp T.D_law_not_less.B .nil pass0 (pa_cons (pv 1) (pa_cons (pv 4) (pa_cons (pv 5) (pa_cons (pv 6) pa_nil))))))) (pss_one (ps_ret pe_bl)) pss_nil)))
      (pss_cons (ps_if (PW.pt (pw_or (pt_not (pt_val (pe_call G_law_chains_right (hr.mono (by decide)) (by rfl) T.D_law_chains_right.G T.D_law_chains_right.F.kp T.D_law_chains_right.B .nil pass0 (pa_cons (pv 1) (pa_cons (pv 4) (pa_cons (pv 5) (pa_cons (pv 6) pa_nil))))))) (pw_or1 (pt_not (pt_val (pe_call G_law_moved_right (hr.mono (by decide)) (by rfl) T.D_law_moved_right.G T.D_law_moved_right.F.kp T.D_law_moved_right.B .nil pass0 (pa_cons (pv 1) (pa_cons (pv 4) (pa_cons (pv 5) (pa_cons (pv 6) pa_nil)))))))))) (pss_one (ps_ret pe_bl)) pss_nil)
      (pss_cons (ps_for PassesOwn.never rfl (pi_list (pe_lst (pa_cons (pe_op op_sub (pe_ix ix_tup (pv 6) (pe_un un_neg pe_int) (fun _ _ => rfl)) pe_int) (pa_cons (pe_op op_sub (pe_ix ix_tup (pv 6) (pe_un un_neg pe_int) (fun _ _ => rfl)) pe_int) (pa_cons pe_int pa_nil))))) (pg_name (i := 8) sc_law.nd rfl (.inl rfl)) (pss_one (ps_if (pt_not (pt_val (pe_call G_law_strips_right (hr.mono (by decide)) (by rfl) T.D_law_strips_right.G T.D_law_strips_right.F.kp T.D_law_strips_right.B .nil pass0 (pa_cons (pe_op op_catA (pe_tup (pa_cons (pe_callB (call_min2 (by rfl)) (by rfl) T.n_min (by decide +kernel) (pa_cons pe_int (pa_cons (pe_callB (call_max2 (by rfl)) (by rfl) T.n_max (by decide +kernel) (pa_cons pe_int (pa_cons (pv 8) pa_nil))) pa_nil))) pa_nil)) (pe_slice sl_tupA (pv 2) (po_some pe_int) po_none)) (pa_cons (pv 3) (pa_cons (pv 6) pa_nil)))))) (pss_one (ps_ret pe_bl)) pss_nil)))
      (pss_one (ps_ret pe_bl))))))))))), ?_⟩
    refine ⟨_, rfl, a, ns, rfl, hS, hl, fun H1 d l s1 D1 => ?_⟩
    refine ⟨_, rfl, d, l, rfl, D1, fun H2 v S m k2 D2 sv st em a1 b1 nb1 nb2 => ?_⟩
    refine ⟨_, rfl, d, l, rfl, D2, fun H3 y Y k3 D3 tb ok => ?_⟩
    have sv := sv.mono (kpTup D2 k3)
    have ⟨t1, t8, l96, tok⟩ := tab_ok (S := S) ok
    refine ⟨_, rfl, _, rfl, v, y, S, Y, rfl, sv, st, tb, ok, fun H4 p c k4 ep hc => ?_⟩
    refine ⟨p, _, rfl, SqT.of ep, rfl, _, _, rfl, _, _, rfl, rfl, ?_⟩
    refine ⟨_, rfl, _, rfl, c, ntr Y, celsA S Y, rfl, hc, tok, fun H5 B k5 eB => ?_⟩
    have hc5 := hc.mono (same_tup k5)
    refine ⟨_, rfl, _, rfl, _, rfl, c, B, celsA S Y, ntr Y, rfl, hc5, tok, eB, fun H6 k6 => ⟨true, rfl, ?_⟩⟩
    have k36 := (k4.trans k5).trans k6
    have D6 := D3.keep k36
    have sv := sv.mono (same_tup k36)
    have tb := tb.kt (same_tup k36)
    have hc := hc5.mono (same_tup k6)
    have eB := k6 _ _ eB
    have n1 : 1 ≤ (celsA S Y).length := by
      obtain ⟨r0, hr0, _⟩ := ntr_hit (S := S) ok
      exact List.length_pos_of_mem hr0
    clear ep
    refine ⟨3, rfl, by omega, by omega, ?_⟩
    refine for_it walk_range (fun i σ' H' => ∃ (x7 x8 : Option V), σ' = [some (.ref a), some (.ref d), some v, some y, some (nV (ntr Y)), some c, some (.ref B), x7, x8] ∧ Kp d H6 H' ∧ DI d l H') ⟨none, none, rfl, Kp.refl _ _, D6⟩ (fun _ _ _ _ _ => trivial) ?_ ?_
    · rintro i x σ' Ha H7 hi ⟨x7, x8, rfl, k7, D7⟩ ⟨rfl, hx⟩
      have t7 : TK H6 H7 := kpTup D6 k7
      exact ⟨_, rfl, _, rfl, _, rfl, _, rfl, d, l, c, B, celsA S Y, ntr Y, rfl, D7, hc.mono t7, tok, t7 _ _ eB, fun H8 k8 D8 => ⟨true, rfl, _, _, rfl, k7.trans k8, D8⟩⟩
    rintro σ' H7 ⟨x7, x8, rfl, k7, D7⟩
    have t7 : TK H6 H7 := kpTup D6 k7
    refine ⟨_, rfl, _, rfl, _, rfl, _, rfl, d, l, c, B, celsA S Y, ntr Y, rfl, D7, hc.mono t7, tok, t7 _ _ eB, fun H8 k8 D8 => ⟨true, rfl, ?_⟩⟩
    have t8 := t7.trans (kpTup D7 k8)
    refine ⟨_, rfl, _, rfl, _, rfl, _, rfl, d, l, c, B, celsA S Y, ntr Y, rfl, D8, hc.mono t8, tok, n1, t8 _ _ eB, fun H9 k9 D9 => ⟨true, rfl, ?_⟩⟩
    have t9 : TK H6 H9 := t8.trans (kpTup D8 k9)
    have sv := sv.mono t9
    have tb := tb.kt t9
    have eB := t9 _ _ eB
    clear hc t7 t8 t9 k7 k8 k9
    refine ⟨.ref B, rfl, 1, rfl, B, _, -1, _, rfl, rfl, SqT.of eB, bl_last _ _, _, _, rfl, rfl, .ref B, rfl, 1, rfl, B, _, -1, _, rfl, rfl, SqT.of eB, bl_last _ _, _, _, rfl, rfl, by show 3 ≤ sizeLine; decide, fun L nL => ?_⟩
    generalize hl2 : [(fun i j => V.int (i - j)) (bN (celsA S Y) (ntr Y) : Int) 1, (fun i j => V.int (i - j)) (bN (celsA S Y) (ntr Y) : Int) 2, V.int 60] = l2
    have hi2 : ∀ x ∈ l2, ∃ z, x = V.int z := by
      intro x hx
      rw [← hl2] at hx
      simp only [List.mem_cons, List.not_mem_nil, or_false] at hx
      rcases hx with rfl | rfl | rfl <;> exact ⟨_, rfl⟩
    have k10 := same_upd (o := .lst l2) (Same.refl H9) nL
    have eL : upd H9 L (.lst l2) L = some (.lst l2) := upd_same
    clear hl2
    generalize upd H9 L (.lst l2) = H10 at k10 eL
    have t10 := same_tup k10
    have sv := sv.mono t10
    have tb := tb.kt t10
    have eB := t10 _ _ eB
    refine ⟨L, rfl, ⟨_, SqL.of eL⟩, ?_⟩
    refine for_it (walk_list (K := K) (a := L) (xs := l2)) (fun i σ' H' => ∃ (x7 x8 : Option V), σ' = [some (.ref a), some (.ref d), some v, some y, some (nV (ntr Y)), some c, some (.ref B), x7, x8] ∧ Same H10 H') ⟨_, _, rfl, Same.refl _⟩ ?_ ?_ ?_
    · rintro i σ' H' _ ⟨_, _, _, k⟩
      exact SqL.of (k _ _ eL)
    · rintro i x σ' Ha H11 hi ⟨x7, x8, rfl, k11⟩ ⟨rfl, hx⟩
      obtain ⟨z, rfl⟩ := hi2 x (List.mem_of_getElem? hx)
      obtain ⟨va, wv, cv, bv, pr, rfl, ev, rw1, rc, rb⟩ := id (sv.mono (same_tup k11))
      obtain ⟨M, hM, h60⟩ : ∃ M : Nat, (if (if z > 6 then z else 6) < 60 then (if z > 6 then z else 6) else 60) = (M : Int) ∧ M ≤ 60 := by
        refine ⟨(if (if z > 6 then z else 6) < 60 then (if z > 6 then z else 6) else 60).toNat, ?_, ?_⟩
        · split <;> split <;> omega
        · split <;> split <;> omega
      refine ⟨.int z, rfl, 6, z, rfl, 60, _, rfl, by show 1 ≤ sizeLine; decide, fun p1 np1 => ?_⟩
      generalize hX : upd H11 p1 _ = X
      have hX : X = upd H11 p1 (.tup [nV M]) := by
        rw [← hX]
        exact congrArg (fun i => upd H11 p1 (.tup [V.int i])) hM
      have kX : Same H11 X := by rw [hX]; exact same_upd (Same.refl _) np1
      have eX : X p1 = some (.tup [nV M]) := by rw [hX]; exact upd_same
      clear hX
      refine ⟨.ref va, rfl, 1, rfl, slA_fr (kX _ _ ev) fun p2 H12 k12 e2 => ?_⟩
      refine catA_any (k12 _ _ eX) e2 (by show 1 + 6 ≤ sizeLine; decide) fun c2 H13 k13 e3 => ?_
      have k1113 := (kX.trans k12).trans k13
      have t13 := same_tup k1113
      have e3 : H13 c2 = some (.tup [.int (M : Int), .int S.dp, .int S.cl, wv, cv, bv, pr]) := e3
      have sv3 : StyV H13 (.ref c2) { S with m := (M : Int) } := ⟨c2, wv, cv, bv, pr, rfl, e3, rw1.mono t13, rc.mono t13, rb.mono t13⟩
      have k1013 := k11.trans k1113
      refine ⟨_, rfl, _, rfl, .ref c2, y, B, { S with m := (M : Int) }, Y, M, rfl, sv3, st.m _, ⟨nb1, nb2⟩, rfl, tb.kt (same_tup k1013), ok, ?_, by omega, fun H14 k14 => ⟨true, rfl, _, _, rfl, k1013.trans k14⟩⟩
      rw [celsA_m]
      exact k1013 _ _ eB
    · rintro σ' H11 ⟨x7, x8, rfl, k11⟩
      exact q _
end
theorem all_mk {l : PySem.W.OpenLaw} {w : World} {K : PySem.W.Frag} {h : Heap} {mg : Str → Option Value} {fa : Addr} (X : K.In h) (G : h.Ns mainGlobals mg) (hfa : mg "law" = some (.ref fa))
    {f_width_of : Addr} {od_width_of an_width_of : Option Addr} {sl_width_of : Array (Option Value)} {oc_width_of kV_width_of dc_width_of pm_width_of cd_width_of ct_width_of : Value}
    (a_width_of : PySem.W.nsIn K mainGlobals "width_of" = some (some (.ref f_width_of))) (l_width_of : K.lookup f_width_of = some ⟨oc_width_of, od_width_of, .func (PySem.W.fnOf "width_of" "width_of" (defArgs s_width_of) (defBody s_width_of) (defScope s_width_of) .none kV_width_of dc_width_of pm_width_of an_width_of cd_width_of ct_width_of), sl_width_of⟩) (c_width_of : PySem.W.codeIn K cd_width_of "width_of" = true) (k_width_of : PySem.W.keepIn K (.ref f_width_of) = true)
    {f_cut_of : Addr} {od_cut_of an_cut_of : Option Addr} {sl_cut_of : Array (Option Value)} {oc_cut_of kV_cut_of dc_cut_of pm_cut_of cd_cut_of ct_cut_of : Value}
    (a_cut_of : PySem.W.nsIn K mainGlobals "cut_of" = some (some (.ref f_cut_of))) (l_cut_of : K.lookup f_cut_of = some ⟨oc_cut_of, od_cut_of, .func (PySem.W.fnOf "cut_of" "cut_of" (defArgs s_cut_of) (defBody s_cut_of) (defScope s_cut_of) .none kV_cut_of dc_cut_of pm_cut_of an_cut_of cd_cut_of ct_cut_of), sl_cut_of⟩) (c_cut_of : PySem.W.codeIn K cd_cut_of "cut_of" = true) (k_cut_of : PySem.W.keepIn K (.ref f_cut_of) = true)
    {f_break_price : Addr} {od_break_price an_break_price : Option Addr} {sl_break_price : Array (Option Value)} {oc_break_price kV_break_price dc_break_price pm_break_price cd_break_price ct_break_price : Value}
    (a_break_price : PySem.W.nsIn K mainGlobals "break_price" = some (some (.ref f_break_price))) (l_break_price : K.lookup f_break_price = some ⟨oc_break_price, od_break_price, .func (PySem.W.fnOf "break_price" "break_price" (defArgs s_break_price) (defBody s_break_price) (defScope s_break_price) .none kV_break_price dc_break_price pm_break_price an_break_price cd_break_price ct_break_price), sl_break_price⟩) (c_break_price : PySem.W.codeIn K cd_break_price "break_price" = true) (k_break_price : PySem.W.keepIn K (.ref f_break_price) = true)
    {f_told : Addr} {od_told an_told : Option Addr} {sl_told : Array (Option Value)} {oc_told kV_told dc_told pm_told cd_told ct_told : Value}
    (a_told : PySem.W.nsIn K mainGlobals "_told" = some (some (.ref f_told))) (l_told : K.lookup f_told = some ⟨oc_told, od_told, .func (PySem.W.fnOf "_told" "_told" (defArgs s_told) (defBody s_told) (defScope s_told) .none kV_told dc_told pm_told an_told cd_told ct_told), sl_told⟩) (c_told : PySem.W.codeIn K cd_told "_told" = true) (k_told : PySem.W.keepIn K (.ref f_told) = true)
    {f_signs_of : Addr} {od_signs_of an_signs_of : Option Addr} {sl_signs_of : Array (Option Value)} {oc_signs_of kV_signs_of dc_signs_of pm_signs_of cd_signs_of ct_signs_of : Value}
    (a_signs_of : PySem.W.nsIn K mainGlobals "signs_of" = some (some (.ref f_signs_of))) (l_signs_of : K.lookup f_signs_of = some ⟨oc_signs_of, od_signs_of, .func (PySem.W.fnOf "signs_of" "signs_of" (defArgs s_signs_of) (defBody s_signs_of) (defScope s_signs_of) .none kV_signs_of dc_signs_of pm_signs_of an_signs_of cd_signs_of ct_signs_of), sl_signs_of⟩) (c_signs_of : PySem.W.codeIn K cd_signs_of "signs_of" = true) (k_signs_of : PySem.W.keepIn K (.ref f_signs_of) = true)
    {f_signs_between : Addr} {od_signs_between an_signs_between : Option Addr} {sl_signs_between : Array (Option Value)} {oc_signs_between kV_signs_between dc_signs_between pm_signs_between cd_signs_between ct_signs_between : Value}
    (a_signs_between : PySem.W.nsIn K mainGlobals "signs_between" = some (some (.ref f_signs_between))) (l_signs_between : K.lookup f_signs_between = some ⟨oc_signs_between, od_signs_between, .func (PySem.W.fnOf "signs_between" "signs_between" (defArgs s_signs_between) (defBody s_signs_between) (defScope s_signs_between) .none kV_signs_between dc_signs_between pm_signs_between an_signs_between cd_signs_between ct_signs_between), sl_signs_between⟩) (c_signs_between : PySem.W.codeIn K cd_signs_between "signs_between" = true) (k_signs_between : PySem.W.keepIn K (.ref f_signs_between) = true)
    {f_parting_places : Addr} {od_parting_places an_parting_places : Option Addr} {sl_parting_places : Array (Option Value)} {oc_parting_places kV_parting_places dc_parting_places pm_parting_places cd_parting_places ct_parting_places : Value}
    (a_parting_places : PySem.W.nsIn K mainGlobals "parting_places" = some (some (.ref f_parting_places))) (l_parting_places : K.lookup f_parting_places = some ⟨oc_parting_places, od_parting_places, .func (PySem.W.fnOf "parting_places" "parting_places" (defArgs s_parting_places) (defBody s_parting_places) (defScope s_parting_places) .none kV_parting_places dc_parting_places pm_parting_places an_parting_places cd_parting_places ct_parting_places), sl_parting_places⟩) (c_parting_places : PySem.W.codeIn K cd_parting_places "parting_places" = true) (k_parting_places : PySem.W.keepIn K (.ref f_parting_places) = true)
    {f_width_at : Addr} {od_width_at an_width_at : Option Addr} {sl_width_at : Array (Option Value)} {oc_width_at kV_width_at dc_width_at pm_width_at cd_width_at ct_width_at : Value}
    (a_width_at : PySem.W.nsIn K mainGlobals "_width_at" = some (some (.ref f_width_at))) (l_width_at : K.lookup f_width_at = some ⟨oc_width_at, od_width_at, .func (PySem.W.fnOf "_width_at" "_width_at" (defArgs s_width_at) (defBody s_width_at) (defScope s_width_at) .none kV_width_at dc_width_at pm_width_at an_width_at cd_width_at ct_width_at), sl_width_at⟩) (c_width_at : PySem.W.codeIn K cd_width_at "_width_at" = true) (k_width_at : PySem.W.keepIn K (.ref f_width_at) = true)
    {f_piece_strip : Addr} {od_piece_strip an_piece_strip : Option Addr} {sl_piece_strip : Array (Option Value)} {oc_piece_strip kV_piece_strip dc_piece_strip pm_piece_strip cd_piece_strip ct_piece_strip : Value}
    (a_piece_strip : PySem.W.nsIn K mainGlobals "piece_strip" = some (some (.ref f_piece_strip))) (l_piece_strip : K.lookup f_piece_strip = some ⟨oc_piece_strip, od_piece_strip, .func (PySem.W.fnOf "piece_strip" "piece_strip" (defArgs s_piece_strip) (defBody s_piece_strip) (defScope s_piece_strip) .none kV_piece_strip dc_piece_strip pm_piece_strip an_piece_strip cd_piece_strip ct_piece_strip), sl_piece_strip⟩) (c_piece_strip : PySem.W.codeIn K cd_piece_strip "piece_strip" = true) (k_piece_strip : PySem.W.keepIn K (.ref f_piece_strip) = true)
    {f_word_strip : Addr} {od_word_strip an_word_strip : Option Addr} {sl_word_strip : Array (Option Value)} {oc_word_strip kV_word_strip dc_word_strip pm_word_strip cd_word_strip ct_word_strip : Value}
    (a_word_strip : PySem.W.nsIn K mainGlobals "word_strip" = some (some (.ref f_word_strip))) (l_word_strip : K.lookup f_word_strip = some ⟨oc_word_strip, od_word_strip, .func (PySem.W.fnOf "word_strip" "word_strip" (defArgs s_word_strip) (defBody s_word_strip) (defScope s_word_strip) .none kV_word_strip dc_word_strip pm_word_strip an_word_strip cd_word_strip ct_word_strip), sl_word_strip⟩) (c_word_strip : PySem.W.codeIn K cd_word_strip "word_strip" = true) (k_word_strip : PySem.W.keepIn K (.ref f_word_strip) = true)
    {f_plain_strip : Addr} {od_plain_strip an_plain_strip : Option Addr} {sl_plain_strip : Array (Option Value)} {oc_plain_strip kV_plain_strip dc_plain_strip pm_plain_strip cd_plain_strip ct_plain_strip : Value}
    (a_plain_strip : PySem.W.nsIn K mainGlobals "plain_strip" = some (some (.ref f_plain_strip))) (l_plain_strip : K.lookup f_plain_strip = some ⟨oc_plain_strip, od_plain_strip, .func (PySem.W.fnOf "plain_strip" "plain_strip" (defArgs s_plain_strip) (defBody s_plain_strip) (defScope s_plain_strip) .none kV_plain_strip dc_plain_strip pm_plain_strip an_plain_strip cd_plain_strip ct_plain_strip), sl_plain_strip⟩) (c_plain_strip : PySem.W.codeIn K cd_plain_strip "plain_strip" = true) (k_plain_strip : PySem.W.keepIn K (.ref f_plain_strip) = true)
    {f_blank_strip : Addr} {od_blank_strip an_blank_strip : Option Addr} {sl_blank_strip : Array (Option Value)} {oc_blank_strip kV_blank_strip dc_blank_strip pm_blank_strip cd_blank_strip ct_blank_strip : Value}
    (a_blank_strip : PySem.W.nsIn K mainGlobals "blank_strip" = some (some (.ref f_blank_strip))) (l_blank_strip : K.lookup f_blank_strip = some ⟨oc_blank_strip, od_blank_strip, .func (PySem.W.fnOf "blank_strip" "blank_strip" (defArgs s_blank_strip) (defBody s_blank_strip) (defScope s_blank_strip) .none kV_blank_strip dc_blank_strip pm_blank_strip an_blank_strip cd_blank_strip ct_blank_strip), sl_blank_strip⟩) (c_blank_strip : PySem.W.codeIn K cd_blank_strip "blank_strip" = true) (k_blank_strip : PySem.W.keepIn K (.ref f_blank_strip) = true)
    {f_joined : Addr} {od_joined an_joined : Option Addr} {sl_joined : Array (Option Value)} {oc_joined kV_joined dc_joined pm_joined cd_joined ct_joined : Value}
    (a_joined : PySem.W.nsIn K mainGlobals "joined" = some (some (.ref f_joined))) (l_joined : K.lookup f_joined = some ⟨oc_joined, od_joined, .func (PySem.W.fnOf "joined" "joined" (defArgs s_joined) (defBody s_joined) (defScope s_joined) .none kV_joined dc_joined pm_joined an_joined cd_joined ct_joined), sl_joined⟩) (c_joined : PySem.W.codeIn K cd_joined "joined" = true) (k_joined : PySem.W.keepIn K (.ref f_joined) = true)
    {f_placed : Addr} {od_placed an_placed : Option Addr} {sl_placed : Array (Option Value)} {oc_placed kV_placed dc_placed pm_placed cd_placed ct_placed : Value}
    (a_placed : PySem.W.nsIn K mainGlobals "placed" = some (some (.ref f_placed))) (l_placed : K.lookup f_placed = some ⟨oc_placed, od_placed, .func (PySem.W.fnOf "placed" "placed" (defArgs s_placed) (defBody s_placed) (defScope s_placed) .none kV_placed dc_placed pm_placed an_placed cd_placed ct_placed), sl_placed⟩) (c_placed : PySem.W.codeIn K cd_placed "placed" = true) (k_placed : PySem.W.keepIn K (.ref f_placed) = true)
    {f_bare : Addr} {od_bare an_bare : Option Addr} {sl_bare : Array (Option Value)} {oc_bare kV_bare dc_bare pm_bare cd_bare ct_bare : Value}
    (a_bare : PySem.W.nsIn K mainGlobals "bare" = some (some (.ref f_bare))) (l_bare : K.lookup f_bare = some ⟨oc_bare, od_bare, .func (PySem.W.fnOf "bare" "bare" (defArgs s_bare) (defBody s_bare) (defScope s_bare) .none kV_bare dc_bare pm_bare an_bare cd_bare ct_bare), sl_bare⟩) (c_bare : PySem.W.codeIn K cd_bare "bare" = true) (k_bare : PySem.W.keepIn K (.ref f_bare) = true)
    {f_boundaries : Addr} {od_boundaries an_boundaries : Option Addr} {sl_boundaries : Array (Option Value)} {oc_boundaries kV_boundaries dc_boundaries pm_boundaries cd_boundaries ct_boundaries : Value}
    (a_boundaries : PySem.W.nsIn K mainGlobals "boundaries" = some (some (.ref f_boundaries))) (l_boundaries : K.lookup f_boundaries = some ⟨oc_boundaries, od_boundaries, .func (PySem.W.fnOf "boundaries" "boundaries" (defArgs s_boundaries) (defBody s_boundaries) (defScope s_boundaries) .none kV_boundaries dc_boundaries pm_boundaries an_boundaries cd_boundaries ct_boundaries), sl_boundaries⟩) (c_boundaries : PySem.W.codeIn K cd_boundaries "boundaries" = true) (k_boundaries : PySem.W.keepIn K (.ref f_boundaries) = true)
    {f_chain_of : Addr} {od_chain_of an_chain_of : Option Addr} {sl_chain_of : Array (Option Value)} {oc_chain_of kV_chain_of dc_chain_of pm_chain_of cd_chain_of ct_chain_of : Value}
    (a_chain_of : PySem.W.nsIn K mainGlobals "chain_of" = some (some (.ref f_chain_of))) (l_chain_of : K.lookup f_chain_of = some ⟨oc_chain_of, od_chain_of, .func (PySem.W.fnOf "chain_of" "chain_of" (defArgs s_chain_of) (defBody s_chain_of) (defScope s_chain_of) .none kV_chain_of dc_chain_of pm_chain_of an_chain_of cd_chain_of ct_chain_of), sl_chain_of⟩) (c_chain_of : PySem.W.codeIn K cd_chain_of "chain_of" = true) (k_chain_of : PySem.W.keepIn K (.ref f_chain_of) = true)
    {f_judge_chain : Addr} {od_judge_chain an_judge_chain : Option Addr} {sl_judge_chain : Array (Option Value)} {oc_judge_chain kV_judge_chain dc_judge_chain pm_judge_chain cd_judge_chain ct_judge_chain : Value}
    (a_judge_chain : PySem.W.nsIn K mainGlobals "judge_chain" = some (some (.ref f_judge_chain))) (l_judge_chain : K.lookup f_judge_chain = some ⟨oc_judge_chain, od_judge_chain, .func (PySem.W.fnOf "judge_chain" "judge_chain" (defArgs s_judge_chain) (defBody s_judge_chain) (defScope s_judge_chain) .none kV_judge_chain dc_judge_chain pm_judge_chain an_judge_chain cd_judge_chain ct_judge_chain), sl_judge_chain⟩) (c_judge_chain : PySem.W.codeIn K cd_judge_chain "judge_chain" = true) (k_judge_chain : PySem.W.keepIn K (.ref f_judge_chain) = true)
    {f_table_strips : Addr} {od_table_strips an_table_strips : Option Addr} {sl_table_strips : Array (Option Value)} {oc_table_strips kV_table_strips dc_table_strips pm_table_strips cd_table_strips ct_table_strips : Value}
    (a_table_strips : PySem.W.nsIn K mainGlobals "table_strips" = some (some (.ref f_table_strips))) (l_table_strips : K.lookup f_table_strips = some ⟨oc_table_strips, od_table_strips, .func (PySem.W.fnOf "table_strips" "table_strips" (defArgs s_table_strips) (defBody s_table_strips) (defScope s_table_strips) .none kV_table_strips dc_table_strips pm_table_strips an_table_strips cd_table_strips ct_table_strips), sl_table_strips⟩) (c_table_strips : PySem.W.codeIn K cd_table_strips "table_strips" = true) (k_table_strips : PySem.W.keepIn K (.ref f_table_strips) = true)
    {f_traced_table : Addr} {od_traced_table an_traced_table : Option Addr} {sl_traced_table : Array (Option Value)} {oc_traced_table kV_traced_table dc_traced_table pm_traced_table cd_traced_table ct_traced_table : Value}
    (a_traced_table : PySem.W.nsIn K mainGlobals "traced_table" = some (some (.ref f_traced_table))) (l_traced_table : K.lookup f_traced_table = some ⟨oc_traced_table, od_traced_table, .func (PySem.W.fnOf "traced_table" "traced_table" (defArgs s_traced_table) (defBody s_traced_table) (defScope s_traced_table) .none kV_traced_table dc_traced_table pm_traced_table an_traced_table cd_traced_table ct_traced_table), sl_traced_table⟩) (c_traced_table : PySem.W.codeIn K cd_traced_table "traced_table" = true) (k_traced_table : PySem.W.keepIn K (.ref f_traced_table) = true)
    {f_demands : Addr} {od_demands an_demands : Option Addr} {sl_demands : Array (Option Value)} {oc_demands kV_demands dc_demands pm_demands cd_demands ct_demands : Value}
    (a_demands : PySem.W.nsIn K mainGlobals "_demands" = some (some (.ref f_demands))) (l_demands : K.lookup f_demands = some ⟨oc_demands, od_demands, .func (PySem.W.fnOf "_demands" "_demands" (defArgs s_demands) (defBody s_demands) (defScope s_demands) .none kV_demands dc_demands pm_demands an_demands cd_demands ct_demands), sl_demands⟩) (c_demands : PySem.W.codeIn K cd_demands "_demands" = true) (k_demands : PySem.W.keepIn K (.ref f_demands) = true)
    {f_cells_of : Addr} {od_cells_of an_cells_of : Option Addr} {sl_cells_of : Array (Option Value)} {oc_cells_of kV_cells_of dc_cells_of pm_cells_of cd_cells_of ct_cells_of : Value}
    (a_cells_of : PySem.W.nsIn K mainGlobals "_cells_of" = some (some (.ref f_cells_of))) (l_cells_of : K.lookup f_cells_of = some ⟨oc_cells_of, od_cells_of, .func (PySem.W.fnOf "_cells_of" "_cells_of" (defArgs s_cells_of) (defBody s_cells_of) (defScope s_cells_of) .none kV_cells_of dc_cells_of pm_cells_of an_cells_of cd_cells_of ct_cells_of), sl_cells_of⟩) (c_cells_of : PySem.W.codeIn K cd_cells_of "_cells_of" = true) (k_cells_of : PySem.W.keepIn K (.ref f_cells_of) = true)
    {f_cell_strip : Addr} {od_cell_strip an_cell_strip : Option Addr} {sl_cell_strip : Array (Option Value)} {oc_cell_strip kV_cell_strip dc_cell_strip pm_cell_strip cd_cell_strip ct_cell_strip : Value}
    (a_cell_strip : PySem.W.nsIn K mainGlobals "_cell_strip" = some (some (.ref f_cell_strip))) (l_cell_strip : K.lookup f_cell_strip = some ⟨oc_cell_strip, od_cell_strip, .func (PySem.W.fnOf "_cell_strip" "_cell_strip" (defArgs s_cell_strip) (defBody s_cell_strip) (defScope s_cell_strip) .none kV_cell_strip dc_cell_strip pm_cell_strip an_cell_strip cd_cell_strip ct_cell_strip), sl_cell_strip⟩) (c_cell_strip : PySem.W.codeIn K cd_cell_strip "_cell_strip" = true) (k_cell_strip : PySem.W.keepIn K (.ref f_cell_strip) = true)
    {f_row_strip : Addr} {od_row_strip an_row_strip : Option Addr} {sl_row_strip : Array (Option Value)} {oc_row_strip kV_row_strip dc_row_strip pm_row_strip cd_row_strip ct_row_strip : Value}
    (a_row_strip : PySem.W.nsIn K mainGlobals "_row_strip" = some (some (.ref f_row_strip))) (l_row_strip : K.lookup f_row_strip = some ⟨oc_row_strip, od_row_strip, .func (PySem.W.fnOf "_row_strip" "_row_strip" (defArgs s_row_strip) (defBody s_row_strip) (defScope s_row_strip) .none kV_row_strip dc_row_strip pm_row_strip an_row_strip cd_row_strip ct_row_strip), sl_row_strip⟩) (c_row_strip : PySem.W.codeIn K cd_row_strip "_row_strip" = true) (k_row_strip : PySem.W.keepIn K (.ref f_row_strip) = true)
    {f_law_begin : Addr} {od_law_begin an_law_begin : Option Addr} {sl_law_begin : Array (Option Value)} {oc_law_begin kV_law_begin dc_law_begin pm_law_begin cd_law_begin ct_law_begin : Value}
    (a_law_begin : PySem.W.nsIn K mainGlobals "_law_begin" = some (some (.ref f_law_begin))) (l_law_begin : K.lookup f_law_begin = some ⟨oc_law_begin, od_law_begin, .func (PySem.W.fnOf "_law_begin" "_law_begin" (defArgs s_law_begin) (defBody s_law_begin) (defScope s_law_begin) .none kV_law_begin dc_law_begin pm_law_begin an_law_begin cd_law_begin ct_law_begin), sl_law_begin⟩) (c_law_begin : PySem.W.codeIn K cd_law_begin "_law_begin" = true) (k_law_begin : PySem.W.keepIn K (.ref f_law_begin) = true)
    {f_law_draw : Addr} {od_law_draw an_law_draw : Option Addr} {sl_law_draw : Array (Option Value)} {oc_law_draw kV_law_draw dc_law_draw pm_law_draw cd_law_draw ct_law_draw : Value}
    (a_law_draw : PySem.W.nsIn K mainGlobals "_law_draw" = some (some (.ref f_law_draw))) (l_law_draw : K.lookup f_law_draw = some ⟨oc_law_draw, od_law_draw, .func (PySem.W.fnOf "_law_draw" "_law_draw" (defArgs s_law_draw) (defBody s_law_draw) (defScope s_law_draw) .none kV_law_draw dc_law_draw pm_law_draw an_law_draw cd_law_draw ct_law_draw), sl_law_draw⟩) (c_law_draw : PySem.W.codeIn K cd_law_draw "_law_draw" = true) (k_law_draw : PySem.W.keepIn K (.ref f_law_draw) = true)
    {f_law_pick : Addr} {od_law_pick an_law_pick : Option Addr} {sl_law_pick : Array (Option Value)} {oc_law_pick kV_law_pick dc_law_pick pm_law_pick cd_law_pick ct_law_pick : Value}
    (a_law_pick : PySem.W.nsIn K mainGlobals "_law_pick" = some (some (.ref f_law_pick))) (l_law_pick : K.lookup f_law_pick = some ⟨oc_law_pick, od_law_pick, .func (PySem.W.fnOf "_law_pick" "_law_pick" (defArgs s_law_pick) (defBody s_law_pick) (defScope s_law_pick) .none kV_law_pick dc_law_pick pm_law_pick an_law_pick cd_law_pick ct_law_pick), sl_law_pick⟩) (c_law_pick : PySem.W.codeIn K cd_law_pick "_law_pick" = true) (k_law_pick : PySem.W.keepIn K (.ref f_law_pick) = true)
    {f_law_rare : Addr} {od_law_rare an_law_rare : Option Addr} {sl_law_rare : Array (Option Value)} {oc_law_rare kV_law_rare dc_law_rare pm_law_rare cd_law_rare ct_law_rare : Value}
    (a_law_rare : PySem.W.nsIn K mainGlobals "_law_rare" = some (some (.ref f_law_rare))) (l_law_rare : K.lookup f_law_rare = some ⟨oc_law_rare, od_law_rare, .func (PySem.W.fnOf "_law_rare" "_law_rare" (defArgs s_law_rare) (defBody s_law_rare) (defScope s_law_rare) .none kV_law_rare dc_law_rare pm_law_rare an_law_rare cd_law_rare ct_law_rare), sl_law_rare⟩) (c_law_rare : PySem.W.codeIn K cd_law_rare "_law_rare" = true) (k_law_rare : PySem.W.keepIn K (.ref f_law_rare) = true)
    {f_law_word : Addr} {od_law_word an_law_word : Option Addr} {sl_law_word : Array (Option Value)} {oc_law_word kV_law_word dc_law_word pm_law_word cd_law_word ct_law_word : Value}
    (a_law_word : PySem.W.nsIn K mainGlobals "_law_word" = some (some (.ref f_law_word))) (l_law_word : K.lookup f_law_word = some ⟨oc_law_word, od_law_word, .func (PySem.W.fnOf "_law_word" "_law_word" (defArgs s_law_word) (defBody s_law_word) (defScope s_law_word) .none kV_law_word dc_law_word pm_law_word an_law_word cd_law_word ct_law_word), sl_law_word⟩) (c_law_word : PySem.W.codeIn K cd_law_word "_law_word" = true) (k_law_word : PySem.W.keepIn K (.ref f_law_word) = true)
    {f_law_style : Addr} {od_law_style an_law_style : Option Addr} {sl_law_style : Array (Option Value)} {oc_law_style kV_law_style dc_law_style pm_law_style cd_law_style ct_law_style : Value}
    (a_law_style : PySem.W.nsIn K mainGlobals "_law_style" = some (some (.ref f_law_style))) (l_law_style : K.lookup f_law_style = some ⟨oc_law_style, od_law_style, .func (PySem.W.fnOf "_law_style" "_law_style" (defArgs s_law_style) (defBody s_law_style) (defScope s_law_style) .none kV_law_style dc_law_style pm_law_style an_law_style cd_law_style ct_law_style), sl_law_style⟩) (c_law_style : PySem.W.codeIn K cd_law_style "_law_style" = true) (k_law_style : PySem.W.keepIn K (.ref f_law_style) = true)
    {f_law_piece : Addr} {od_law_piece an_law_piece : Option Addr} {sl_law_piece : Array (Option Value)} {oc_law_piece kV_law_piece dc_law_piece pm_law_piece cd_law_piece ct_law_piece : Value}
    (a_law_piece : PySem.W.nsIn K mainGlobals "_law_piece" = some (some (.ref f_law_piece))) (l_law_piece : K.lookup f_law_piece = some ⟨oc_law_piece, od_law_piece, .func (PySem.W.fnOf "_law_piece" "_law_piece" (defArgs s_law_piece) (defBody s_law_piece) (defScope s_law_piece) .none kV_law_piece dc_law_piece pm_law_piece an_law_piece cd_law_piece ct_law_piece), sl_law_piece⟩) (c_law_piece : PySem.W.codeIn K cd_law_piece "_law_piece" = true) (k_law_piece : PySem.W.keepIn K (.ref f_law_piece) = true)
    {f_law_covered : Addr} {od_law_covered an_law_covered : Option Addr} {sl_law_covered : Array (Option Value)} {oc_law_covered kV_law_covered dc_law_covered pm_law_covered cd_law_covered ct_law_covered : Value}
    (a_law_covered : PySem.W.nsIn K mainGlobals "_law_covered" = some (some (.ref f_law_covered))) (l_law_covered : K.lookup f_law_covered = some ⟨oc_law_covered, od_law_covered, .func (PySem.W.fnOf "_law_covered" "_law_covered" (defArgs s_law_covered) (defBody s_law_covered) (defScope s_law_covered) .none kV_law_covered dc_law_covered pm_law_covered an_law_covered cd_law_covered ct_law_covered), sl_law_covered⟩) (c_law_covered : PySem.W.codeIn K cd_law_covered "_law_covered" = true) (k_law_covered : PySem.W.keepIn K (.ref f_law_covered) = true)
    {f_law_exact : Addr} {od_law_exact an_law_exact : Option Addr} {sl_law_exact : Array (Option Value)} {oc_law_exact kV_law_exact dc_law_exact pm_law_exact cd_law_exact ct_law_exact : Value}
    (a_law_exact : PySem.W.nsIn K mainGlobals "_law_exact" = some (some (.ref f_law_exact))) (l_law_exact : K.lookup f_law_exact = some ⟨oc_law_exact, od_law_exact, .func (PySem.W.fnOf "_law_exact" "_law_exact" (defArgs s_law_exact) (defBody s_law_exact) (defScope s_law_exact) .none kV_law_exact dc_law_exact pm_law_exact an_law_exact cd_law_exact ct_law_exact), sl_law_exact⟩) (c_law_exact : PySem.W.codeIn K cd_law_exact "_law_exact" = true) (k_law_exact : PySem.W.keepIn K (.ref f_law_exact) = true)
    {f_law_told_error : Addr} {od_law_told_error an_law_told_error : Option Addr} {sl_law_told_error : Array (Option Value)} {oc_law_told_error kV_law_told_error dc_law_told_error pm_law_told_error cd_law_told_error ct_law_told_error : Value}
    (a_law_told_error : PySem.W.nsIn K mainGlobals "_law_told_error" = some (some (.ref f_law_told_error))) (l_law_told_error : K.lookup f_law_told_error = some ⟨oc_law_told_error, od_law_told_error, .func (PySem.W.fnOf "_law_told_error" "_law_told_error" (defArgs s_law_told_error) (defBody s_law_told_error) (defScope s_law_told_error) .none kV_law_told_error dc_law_told_error pm_law_told_error an_law_told_error cd_law_told_error ct_law_told_error), sl_law_told_error⟩) (c_law_told_error : PySem.W.codeIn K cd_law_told_error "_law_told_error" = true) (k_law_told_error : PySem.W.keepIn K (.ref f_law_told_error) = true)
    {f_law_faced : Addr} {od_law_faced an_law_faced : Option Addr} {sl_law_faced : Array (Option Value)} {oc_law_faced kV_law_faced dc_law_faced pm_law_faced cd_law_faced ct_law_faced : Value}
    (a_law_faced : PySem.W.nsIn K mainGlobals "_law_faced" = some (some (.ref f_law_faced))) (l_law_faced : K.lookup f_law_faced = some ⟨oc_law_faced, od_law_faced, .func (PySem.W.fnOf "_law_faced" "_law_faced" (defArgs s_law_faced) (defBody s_law_faced) (defScope s_law_faced) .none kV_law_faced dc_law_faced pm_law_faced an_law_faced cd_law_faced ct_law_faced), sl_law_faced⟩) (c_law_faced : PySem.W.codeIn K cd_law_faced "_law_faced" = true) (k_law_faced : PySem.W.keepIn K (.ref f_law_faced) = true)
    {f_law_style_drawn : Addr} {od_law_style_drawn an_law_style_drawn : Option Addr} {sl_law_style_drawn : Array (Option Value)} {oc_law_style_drawn kV_law_style_drawn dc_law_style_drawn pm_law_style_drawn cd_law_style_drawn ct_law_style_drawn : Value}
    (a_law_style_drawn : PySem.W.nsIn K mainGlobals "_law_style_drawn" = some (some (.ref f_law_style_drawn))) (l_law_style_drawn : K.lookup f_law_style_drawn = some ⟨oc_law_style_drawn, od_law_style_drawn, .func (PySem.W.fnOf "_law_style_drawn" "_law_style_drawn" (defArgs s_law_style_drawn) (defBody s_law_style_drawn) (defScope s_law_style_drawn) .none kV_law_style_drawn dc_law_style_drawn pm_law_style_drawn an_law_style_drawn cd_law_style_drawn ct_law_style_drawn), sl_law_style_drawn⟩) (c_law_style_drawn : PySem.W.codeIn K cd_law_style_drawn "_law_style_drawn" = true) (k_law_style_drawn : PySem.W.keepIn K (.ref f_law_style_drawn) = true)
    {f_law_long_word : Addr} {od_law_long_word an_law_long_word : Option Addr} {sl_law_long_word : Array (Option Value)} {oc_law_long_word kV_law_long_word dc_law_long_word pm_law_long_word cd_law_long_word ct_law_long_word : Value}
    (a_law_long_word : PySem.W.nsIn K mainGlobals "_law_long_word" = some (some (.ref f_law_long_word))) (l_law_long_word : K.lookup f_law_long_word = some ⟨oc_law_long_word, od_law_long_word, .func (PySem.W.fnOf "_law_long_word" "_law_long_word" (defArgs s_law_long_word) (defBody s_law_long_word) (defScope s_law_long_word) .none kV_law_long_word dc_law_long_word pm_law_long_word an_law_long_word cd_law_long_word ct_law_long_word), sl_law_long_word⟩) (c_law_long_word : PySem.W.codeIn K cd_law_long_word "_law_long_word" = true) (k_law_long_word : PySem.W.keepIn K (.ref f_law_long_word) = true)
    {f_law_cell_drawn : Addr} {od_law_cell_drawn an_law_cell_drawn : Option Addr} {sl_law_cell_drawn : Array (Option Value)} {oc_law_cell_drawn kV_law_cell_drawn dc_law_cell_drawn pm_law_cell_drawn cd_law_cell_drawn ct_law_cell_drawn : Value}
    (a_law_cell_drawn : PySem.W.nsIn K mainGlobals "_law_cell_drawn" = some (some (.ref f_law_cell_drawn))) (l_law_cell_drawn : K.lookup f_law_cell_drawn = some ⟨oc_law_cell_drawn, od_law_cell_drawn, .func (PySem.W.fnOf "_law_cell_drawn" "_law_cell_drawn" (defArgs s_law_cell_drawn) (defBody s_law_cell_drawn) (defScope s_law_cell_drawn) .none kV_law_cell_drawn dc_law_cell_drawn pm_law_cell_drawn an_law_cell_drawn cd_law_cell_drawn ct_law_cell_drawn), sl_law_cell_drawn⟩) (c_law_cell_drawn : PySem.W.codeIn K cd_law_cell_drawn "_law_cell_drawn" = true) (k_law_cell_drawn : PySem.W.keepIn K (.ref f_law_cell_drawn) = true)
    {f_law_row_drawn : Addr} {od_law_row_drawn an_law_row_drawn : Option Addr} {sl_law_row_drawn : Array (Option Value)} {oc_law_row_drawn kV_law_row_drawn dc_law_row_drawn pm_law_row_drawn cd_law_row_drawn ct_law_row_drawn : Value}
    (a_law_row_drawn : PySem.W.nsIn K mainGlobals "_law_row_drawn" = some (some (.ref f_law_row_drawn))) (l_law_row_drawn : K.lookup f_law_row_drawn = some ⟨oc_law_row_drawn, od_law_row_drawn, .func (PySem.W.fnOf "_law_row_drawn" "_law_row_drawn" (defArgs s_law_row_drawn) (defBody s_law_row_drawn) (defScope s_law_row_drawn) .none kV_law_row_drawn dc_law_row_drawn pm_law_row_drawn an_law_row_drawn cd_law_row_drawn ct_law_row_drawn), sl_law_row_drawn⟩) (c_law_row_drawn : PySem.W.codeIn K cd_law_row_drawn "_law_row_drawn" = true) (k_law_row_drawn : PySem.W.keepIn K (.ref f_law_row_drawn) = true)
    {f_law_rows_drawn : Addr} {od_law_rows_drawn an_law_rows_drawn : Option Addr} {sl_law_rows_drawn : Array (Option Value)} {oc_law_rows_drawn kV_law_rows_drawn dc_law_rows_drawn pm_law_rows_drawn cd_law_rows_drawn ct_law_rows_drawn : Value}
    (a_law_rows_drawn : PySem.W.nsIn K mainGlobals "_law_rows_drawn" = some (some (.ref f_law_rows_drawn))) (l_law_rows_drawn : K.lookup f_law_rows_drawn = some ⟨oc_law_rows_drawn, od_law_rows_drawn, .func (PySem.W.fnOf "_law_rows_drawn" "_law_rows_drawn" (defArgs s_law_rows_drawn) (defBody s_law_rows_drawn) (defScope s_law_rows_drawn) .none kV_law_rows_drawn dc_law_rows_drawn pm_law_rows_drawn an_law_rows_drawn cd_law_rows_drawn ct_law_rows_drawn), sl_law_rows_drawn⟩) (c_law_rows_drawn : PySem.W.codeIn K cd_law_rows_drawn "_law_rows_drawn" = true) (k_law_rows_drawn : PySem.W.keepIn K (.ref f_law_rows_drawn) = true)
    {f_law_cell_signs : Addr} {od_law_cell_signs an_law_cell_signs : Option Addr} {sl_law_cell_signs : Array (Option Value)} {oc_law_cell_signs kV_law_cell_signs dc_law_cell_signs pm_law_cell_signs cd_law_cell_signs ct_law_cell_signs : Value}
    (a_law_cell_signs : PySem.W.nsIn K mainGlobals "_law_cell_signs" = some (some (.ref f_law_cell_signs))) (l_law_cell_signs : K.lookup f_law_cell_signs = some ⟨oc_law_cell_signs, od_law_cell_signs, .func (PySem.W.fnOf "_law_cell_signs" "_law_cell_signs" (defArgs s_law_cell_signs) (defBody s_law_cell_signs) (defScope s_law_cell_signs) .none kV_law_cell_signs dc_law_cell_signs pm_law_cell_signs an_law_cell_signs cd_law_cell_signs ct_law_cell_signs), sl_law_cell_signs⟩) (c_law_cell_signs : PySem.W.codeIn K cd_law_cell_signs "_law_cell_signs" = true) (k_law_cell_signs : PySem.W.keepIn K (.ref f_law_cell_signs) = true)
    {f_law_cells_of : Addr} {od_law_cells_of an_law_cells_of : Option Addr} {sl_law_cells_of : Array (Option Value)} {oc_law_cells_of kV_law_cells_of dc_law_cells_of pm_law_cells_of cd_law_cells_of ct_law_cells_of : Value}
    (a_law_cells_of : PySem.W.nsIn K mainGlobals "_law_cells_of" = some (some (.ref f_law_cells_of))) (l_law_cells_of : K.lookup f_law_cells_of = some ⟨oc_law_cells_of, od_law_cells_of, .func (PySem.W.fnOf "_law_cells_of" "_law_cells_of" (defArgs s_law_cells_of) (defBody s_law_cells_of) (defScope s_law_cells_of) .none kV_law_cells_of dc_law_cells_of pm_law_cells_of an_law_cells_of cd_law_cells_of ct_law_cells_of), sl_law_cells_of⟩) (c_law_cells_of : PySem.W.codeIn K cd_law_cells_of "_law_cells_of" = true) (k_law_cells_of : PySem.W.keepIn K (.ref f_law_cells_of) = true)
    {f_law_asked_of : Addr} {od_law_asked_of an_law_asked_of : Option Addr} {sl_law_asked_of : Array (Option Value)} {oc_law_asked_of kV_law_asked_of dc_law_asked_of pm_law_asked_of cd_law_asked_of ct_law_asked_of : Value}
    (a_law_asked_of : PySem.W.nsIn K mainGlobals "_law_asked_of" = some (some (.ref f_law_asked_of))) (l_law_asked_of : K.lookup f_law_asked_of = some ⟨oc_law_asked_of, od_law_asked_of, .func (PySem.W.fnOf "_law_asked_of" "_law_asked_of" (defArgs s_law_asked_of) (defBody s_law_asked_of) (defScope s_law_asked_of) .none kV_law_asked_of dc_law_asked_of pm_law_asked_of an_law_asked_of cd_law_asked_of ct_law_asked_of), sl_law_asked_of⟩) (c_law_asked_of : PySem.W.codeIn K cd_law_asked_of "_law_asked_of" = true) (k_law_asked_of : PySem.W.keepIn K (.ref f_law_asked_of) = true)
    {f_law_integers : Addr} {od_law_integers an_law_integers : Option Addr} {sl_law_integers : Array (Option Value)} {oc_law_integers kV_law_integers dc_law_integers pm_law_integers cd_law_integers ct_law_integers : Value}
    (a_law_integers : PySem.W.nsIn K mainGlobals "_law_integers" = some (some (.ref f_law_integers))) (l_law_integers : K.lookup f_law_integers = some ⟨oc_law_integers, od_law_integers, .func (PySem.W.fnOf "_law_integers" "_law_integers" (defArgs s_law_integers) (defBody s_law_integers) (defScope s_law_integers) .none kV_law_integers dc_law_integers pm_law_integers an_law_integers cd_law_integers ct_law_integers), sl_law_integers⟩) (c_law_integers : PySem.W.codeIn K cd_law_integers "_law_integers" = true) (k_law_integers : PySem.W.keepIn K (.ref f_law_integers) = true)
    {f_law_least : Addr} {od_law_least an_law_least : Option Addr} {sl_law_least : Array (Option Value)} {oc_law_least kV_law_least dc_law_least pm_law_least cd_law_least ct_law_least : Value}
    (a_law_least : PySem.W.nsIn K mainGlobals "_law_least" = some (some (.ref f_law_least))) (l_law_least : K.lookup f_law_least = some ⟨oc_law_least, od_law_least, .func (PySem.W.fnOf "_law_least" "_law_least" (defArgs s_law_least) (defBody s_law_least) (defScope s_law_least) .none kV_law_least dc_law_least pm_law_least an_law_least cd_law_least ct_law_least), sl_law_least⟩) (c_law_least : PySem.W.codeIn K cd_law_least "_law_least" = true) (k_law_least : PySem.W.keepIn K (.ref f_law_least) = true)
    {f_law_not_less : Addr} {od_law_not_less an_law_not_less : Option Addr} {sl_law_not_less : Array (Option Value)} {oc_law_not_less kV_law_not_less dc_law_not_less pm_law_not_less cd_law_not_less ct_law_not_less : Value}
    (a_law_not_less : PySem.W.nsIn K mainGlobals "_law_not_less" = some (some (.ref f_law_not_less))) (l_law_not_less : K.lookup f_law_not_less = some ⟨oc_law_not_less, od_law_not_less, .func (PySem.W.fnOf "_law_not_less" "_law_not_less" (defArgs s_law_not_less) (defBody s_law_not_less) (defScope s_law_not_less) .none kV_law_not_less dc_law_not_less pm_law_not_less an_law_not_less cd_law_not_less ct_law_not_less), sl_law_not_less⟩) (c_law_not_less : PySem.W.codeIn K cd_law_not_less "_law_not_less" = true) (k_law_not_less : PySem.W.keepIn K (.ref f_law_not_less) = true)
    {f_law_demand : Addr} {od_law_demand an_law_demand : Option Addr} {sl_law_demand : Array (Option Value)} {oc_law_demand kV_law_demand dc_law_demand pm_law_demand cd_law_demand ct_law_demand : Value}
    (a_law_demand : PySem.W.nsIn K mainGlobals "_law_demand" = some (some (.ref f_law_demand))) (l_law_demand : K.lookup f_law_demand = some ⟨oc_law_demand, od_law_demand, .func (PySem.W.fnOf "_law_demand" "_law_demand" (defArgs s_law_demand) (defBody s_law_demand) (defScope s_law_demand) .none kV_law_demand dc_law_demand pm_law_demand an_law_demand cd_law_demand ct_law_demand), sl_law_demand⟩) (c_law_demand : PySem.W.codeIn K cd_law_demand "_law_demand" = true) (k_law_demand : PySem.W.keepIn K (.ref f_law_demand) = true)
    {f_law_walked : Addr} {od_law_walked an_law_walked : Option Addr} {sl_law_walked : Array (Option Value)} {oc_law_walked kV_law_walked dc_law_walked pm_law_walked cd_law_walked ct_law_walked : Value}
    (a_law_walked : PySem.W.nsIn K mainGlobals "_law_walked" = some (some (.ref f_law_walked))) (l_law_walked : K.lookup f_law_walked = some ⟨oc_law_walked, od_law_walked, .func (PySem.W.fnOf "_law_walked" "_law_walked" (defArgs s_law_walked) (defBody s_law_walked) (defScope s_law_walked) .none kV_law_walked dc_law_walked pm_law_walked an_law_walked cd_law_walked ct_law_walked), sl_law_walked⟩) (c_law_walked : PySem.W.codeIn K cd_law_walked "_law_walked" = true) (k_law_walked : PySem.W.keepIn K (.ref f_law_walked) = true)
    {f_law_chains_right : Addr} {od_law_chains_right an_law_chains_right : Option Addr} {sl_law_chains_right : Array (Option Value)} {oc_law_chains_right kV_law_chains_right dc_law_chains_right pm_law_chains_right cd_law_chains_right ct_law_chains_right : Value}
    (a_law_chains_right : PySem.W.nsIn K mainGlobals "_law_chains_right" = some (some (.ref f_law_chains_right))) (l_law_chains_right : K.lookup f_law_chains_right = some ⟨oc_law_chains_right, od_law_chains_right, .func (PySem.W.fnOf "_law_chains_right" "_law_chains_right" (defArgs s_law_chains_right) (defBody s_law_chains_right) (defScope s_law_chains_right) .none kV_law_chains_right dc_law_chains_right pm_law_chains_right an_law_chains_right cd_law_chains_right ct_law_chains_right), sl_law_chains_right⟩) (c_law_chains_right : PySem.W.codeIn K cd_law_chains_right "_law_chains_right" = true) (k_law_chains_right : PySem.W.keepIn K (.ref f_law_chains_right) = true)
    {f_law_moved_right : Addr} {od_law_moved_right an_law_moved_right : Option Addr} {sl_law_moved_right : Array (Option Value)} {oc_law_moved_right kV_law_moved_right dc_law_moved_right pm_law_moved_right cd_law_moved_right ct_law_moved_right : Value}
    (a_law_moved_right : PySem.W.nsIn K mainGlobals "_law_moved_right" = some (some (.ref f_law_moved_right))) (l_law_moved_right : K.lookup f_law_moved_right = some ⟨oc_law_moved_right, od_law_moved_right, .func (PySem.W.fnOf "_law_moved_right" "_law_moved_right" (defArgs s_law_moved_right) (defBody s_law_moved_right) (defScope s_law_moved_right) .none kV_law_moved_right dc_law_moved_right pm_law_moved_right an_law_moved_right cd_law_moved_right ct_law_moved_right), sl_law_moved_right⟩) (c_law_moved_right : PySem.W.codeIn K cd_law_moved_right "_law_moved_right" = true) (k_law_moved_right : PySem.W.keepIn K (.ref f_law_moved_right) = true)
    {f_law_told : Addr} {od_law_told an_law_told : Option Addr} {sl_law_told : Array (Option Value)} {oc_law_told kV_law_told dc_law_told pm_law_told cd_law_told ct_law_told : Value}
    (a_law_told : PySem.W.nsIn K mainGlobals "_law_told" = some (some (.ref f_law_told))) (l_law_told : K.lookup f_law_told = some ⟨oc_law_told, od_law_told, .func (PySem.W.fnOf "_law_told" "_law_told" (defArgs s_law_told) (defBody s_law_told) (defScope s_law_told) .none kV_law_told dc_law_told pm_law_told an_law_told cd_law_told ct_law_told), sl_law_told⟩) (c_law_told : PySem.W.codeIn K cd_law_told "_law_told" = true) (k_law_told : PySem.W.keepIn K (.ref f_law_told) = true)
    {f_law_row_right : Addr} {od_law_row_right an_law_row_right : Option Addr} {sl_law_row_right : Array (Option Value)} {oc_law_row_right kV_law_row_right dc_law_row_right pm_law_row_right cd_law_row_right ct_law_row_right : Value}
    (a_law_row_right : PySem.W.nsIn K mainGlobals "_law_row_right" = some (some (.ref f_law_row_right))) (l_law_row_right : K.lookup f_law_row_right = some ⟨oc_law_row_right, od_law_row_right, .func (PySem.W.fnOf "_law_row_right" "_law_row_right" (defArgs s_law_row_right) (defBody s_law_row_right) (defScope s_law_row_right) .none kV_law_row_right dc_law_row_right pm_law_row_right an_law_row_right cd_law_row_right ct_law_row_right), sl_law_row_right⟩) (c_law_row_right : PySem.W.codeIn K cd_law_row_right "_law_row_right" = true) (k_law_row_right : PySem.W.keepIn K (.ref f_law_row_right) = true)
    {f_law_like : Addr} {od_law_like an_law_like : Option Addr} {sl_law_like : Array (Option Value)} {oc_law_like kV_law_like dc_law_like pm_law_like cd_law_like ct_law_like : Value}
    (a_law_like : PySem.W.nsIn K mainGlobals "_law_like" = some (some (.ref f_law_like))) (l_law_like : K.lookup f_law_like = some ⟨oc_law_like, od_law_like, .func (PySem.W.fnOf "_law_like" "_law_like" (defArgs s_law_like) (defBody s_law_like) (defScope s_law_like) .none kV_law_like dc_law_like pm_law_like an_law_like cd_law_like ct_law_like), sl_law_like⟩) (c_law_like : PySem.W.codeIn K cd_law_like "_law_like" = true) (k_law_like : PySem.W.keepIn K (.ref f_law_like) = true)
    {f_law_exchanged : Addr} {od_law_exchanged an_law_exchanged : Option Addr} {sl_law_exchanged : Array (Option Value)} {oc_law_exchanged kV_law_exchanged dc_law_exchanged pm_law_exchanged cd_law_exchanged ct_law_exchanged : Value}
    (a_law_exchanged : PySem.W.nsIn K mainGlobals "_law_exchanged" = some (some (.ref f_law_exchanged))) (l_law_exchanged : K.lookup f_law_exchanged = some ⟨oc_law_exchanged, od_law_exchanged, .func (PySem.W.fnOf "_law_exchanged" "_law_exchanged" (defArgs s_law_exchanged) (defBody s_law_exchanged) (defScope s_law_exchanged) .none kV_law_exchanged dc_law_exchanged pm_law_exchanged an_law_exchanged cd_law_exchanged ct_law_exchanged), sl_law_exchanged⟩) (c_law_exchanged : PySem.W.codeIn K cd_law_exchanged "_law_exchanged" = true) (k_law_exchanged : PySem.W.keepIn K (.ref f_law_exchanged) = true)
    {f_law_strips_right : Addr} {od_law_strips_right an_law_strips_right : Option Addr} {sl_law_strips_right : Array (Option Value)} {oc_law_strips_right kV_law_strips_right dc_law_strips_right pm_law_strips_right cd_law_strips_right ct_law_strips_right : Value}
    (a_law_strips_right : PySem.W.nsIn K mainGlobals "_law_strips_right" = some (some (.ref f_law_strips_right))) (l_law_strips_right : K.lookup f_law_strips_right = some ⟨oc_law_strips_right, od_law_strips_right, .func (PySem.W.fnOf "_law_strips_right" "_law_strips_right" (defArgs s_law_strips_right) (defBody s_law_strips_right) (defScope s_law_strips_right) .none kV_law_strips_right dc_law_strips_right pm_law_strips_right an_law_strips_right cd_law_strips_right ct_law_strips_right), sl_law_strips_right⟩) (c_law_strips_right : PySem.W.codeIn K cd_law_strips_right "_law_strips_right" = true) (k_law_strips_right : PySem.W.keepIn K (.ref f_law_strips_right) = true)
    {f_law : Addr} {od_law an_law : Option Addr} {sl_law : Array (Option Value)} {oc_law kV_law dc_law pm_law cd_law ct_law : Value}
    (a_law : PySem.W.nsIn K mainGlobals "law" = some (some (.ref f_law))) (l_law : K.lookup f_law = some ⟨oc_law, od_law, .func (PySem.W.fnOf "law" "law" (defArgs s_law) (defBody s_law) (defScope s_law) .none kV_law dc_law pm_law an_law cd_law ct_law), sl_law⟩) (c_law : PySem.W.codeIn K cd_law "law" = true) (k_law : PySem.W.keepIn K (.ref f_law) = true)
    {t_HYPHEN : Tok} (m_HYPHEN : PySem.W.nsIn K mainGlobals "HYPHEN" = some (some (.str "-" t_HYPHEN)))
    {t_FILLER : Tok} (m_FILLER : PySem.W.nsIn K mainGlobals "FILLER" = some (some (.str "_" t_FILLER)))
    {t_COVER : Tok} (m_COVER : PySem.W.nsIn K mainGlobals "COVER" = some (some (.str "#" t_COVER)))
    {t_BLANK : Tok} (m_BLANK : PySem.W.nsIn K mainGlobals "BLANK" = some (some (.str " " t_BLANK)))
    (n_ValueError : PySem.W.nsIn K mainGlobals "ValueError" = some none)
    (n_bool : PySem.W.nsIn K mainGlobals "bool" = some none)
    (n_int : PySem.W.nsIn K mainGlobals "int" = some none)
    (n_isinstance : PySem.W.nsIn K mainGlobals "isinstance" = some none)
    (n_len : PySem.W.nsIn K mainGlobals "len" = some none)
    (n_list : PySem.W.nsIn K mainGlobals "list" = some none)
    (n_max : PySem.W.nsIn K mainGlobals "max" = some none)
    (n_min : PySem.W.nsIn K mainGlobals "min" = some none)
    (n_range : PySem.W.nsIn K mainGlobals "range" = some none)
    (n_reversed : PySem.W.nsIn K mainGlobals "reversed" = some none)
    (n_sorted : PySem.W.nsIn K mainGlobals "sorted" = some none)
    (n_str : PySem.W.nsIn K mainGlobals "str" = some none)
    (n_tuple : PySem.W.nsIn K mainGlobals "tuple" = some none)
    (n_zip : PySem.W.nsIn K mainGlobals "zip" = some none)
    {cc_PagesError : Addr} (g_PagesError : PySem.W.nsIn K mainGlobals "PagesError" = some (some (.ref cc_PagesError))) (ic_PagesError : PySem.W.isClsIn K cc_PagesError = true) (ty_PagesError : PySem.W.typeIn K (.ref cc_PagesError) = some (.type "type"))
    {cc_RecordError : Addr} (g_RecordError : PySem.W.nsIn K mainGlobals "RecordError" = some (some (.ref cc_RecordError))) (ic_RecordError : PySem.W.isClsIn K cc_RecordError = true) (ty_RecordError : PySem.W.typeIn K (.ref cc_RecordError) = some (.type "type"))
    {cc_LimitError : Addr} (g_LimitError : PySem.W.nsIn K mainGlobals "LimitError" = some (some (.ref cc_LimitError))) (ic_LimitError : PySem.W.isClsIn K cc_LimitError = true) (ty_LimitError : PySem.W.typeIn K (.ref cc_LimitError) = some (.type "type"))
    {cc_GivenError : Addr} (g_GivenError : PySem.W.nsIn K mainGlobals "GivenError" = some (some (.ref cc_GivenError))) (ic_GivenError : PySem.W.isClsIn K cc_GivenError = true) (ty_GivenError : PySem.W.typeIn K (.ref cc_GivenError) = some (.type "type"))
    {cc_BadText : Addr} (g_BadText : PySem.W.nsIn K mainGlobals "BadText" = some (some (.ref cc_BadText))) (ic_BadText : PySem.W.isClsIn K cc_BadText = true) (ty_BadText : PySem.W.typeIn K (.ref cc_BadText) = some (.type "type"))
    {cc_BadCall : Addr} (g_BadCall : PySem.W.nsIn K mainGlobals "BadCall" = some (some (.ref cc_BadCall))) (ic_BadCall : PySem.W.isClsIn K cc_BadCall = true) (ty_BadCall : PySem.W.typeIn K (.ref cc_BadCall) = some (.type "type"))
    {cc_Misplaced : Addr} (g_Misplaced : PySem.W.nsIn K mainGlobals "Misplaced" = some (some (.ref cc_Misplaced))) (ic_Misplaced : PySem.W.isClsIn K cc_Misplaced = true) (ty_Misplaced : PySem.W.typeIn K (.ref cc_Misplaced) = some (.type "type"))
    {cc_Unknown : Addr} (g_Unknown : PySem.W.nsIn K mainGlobals "Unknown" = some (some (.ref cc_Unknown))) (ic_Unknown : PySem.W.isClsIn K cc_Unknown = true) (ty_Unknown : PySem.W.typeIn K (.ref cc_Unknown) = some (.type "type"))
    {cc_Twice : Addr} (g_Twice : PySem.W.nsIn K mainGlobals "Twice" = some (some (.ref cc_Twice))) (ic_Twice : PySem.W.isClsIn K cc_Twice = true) (ty_Twice : PySem.W.typeIn K (.ref cc_Twice) = some (.type "type"))
    {cc_TooLong : Addr} (g_TooLong : PySem.W.nsIn K mainGlobals "TooLong" = some (some (.ref cc_TooLong))) (ic_TooLong : PySem.W.isClsIn K cc_TooLong = true) (ty_TooLong : PySem.W.typeIn K (.ref cc_TooLong) = some (.type "type"))
    {cc_TooLarge : Addr} (g_TooLarge : PySem.W.nsIn K mainGlobals "TooLarge" = some (some (.ref cc_TooLarge))) (ic_TooLarge : PySem.W.isClsIn K cc_TooLarge = true) (ty_TooLarge : PySem.W.typeIn K (.ref cc_TooLarge) = some (.type "type"))
    {cc_TooMany : Addr} (g_TooMany : PySem.W.nsIn K mainGlobals "TooMany" = some (some (.ref cc_TooMany))) (ic_TooMany : PySem.W.isClsIn K cc_TooMany = true) (ty_TooMany : PySem.W.typeIn K (.ref cc_TooMany) = some (.type "type"))
    {cc_TooWide : Addr} (g_TooWide : PySem.W.nsIn K mainGlobals "TooWide" = some (some (.ref cc_TooWide))) (ic_TooWide : PySem.W.isClsIn K cc_TooWide = true) (ty_TooWide : PySem.W.typeIn K (.ref cc_TooWide) = some (.type "type"))
    {cc_TooTall : Addr} (g_TooTall : PySem.W.nsIn K mainGlobals "TooTall" = some (some (.ref cc_TooTall))) (ic_TooTall : PySem.W.isClsIn K cc_TooTall = true) (ty_TooTall : PySem.W.typeIn K (.ref cc_TooTall) = some (.type "type"))
    {cc_BadStyle : Addr} (g_BadStyle : PySem.W.nsIn K mainGlobals "BadStyle" = some (some (.ref cc_BadStyle))) (ic_BadStyle : PySem.W.isClsIn K cc_BadStyle = true) (ty_BadStyle : PySem.W.typeIn K (.ref cc_BadStyle) = some (.type "type"))
    {cc_BadSecret : Addr} (g_BadSecret : PySem.W.nsIn K mainGlobals "BadSecret" = some (some (.ref cc_BadSecret))) (ic_BadSecret : PySem.W.isClsIn K cc_BadSecret = true) (ty_BadSecret : PySem.W.typeIn K (.ref cc_BadSecret) = some (.type "type"))
    {cc_BadEnding : Addr} (g_BadEnding : PySem.W.nsIn K mainGlobals "BadEnding" = some (some (.ref cc_BadEnding))) (ic_BadEnding : PySem.W.isClsIn K cc_BadEnding = true) (ty_BadEnding : PySem.W.typeIn K (.ref cc_BadEnding) = some (.type "type"))
    {cc_NoStem : Addr} (g_NoStem : PySem.W.nsIn K mainGlobals "NoStem" = some (some (.ref cc_NoStem))) (ic_NoStem : PySem.W.isClsIn K cc_NoStem = true) (ty_NoStem : PySem.W.typeIn K (.ref cc_NoStem) = some (.type "type"))
    {cc_Untrue : Addr} (g_Untrue : PySem.W.nsIn K mainGlobals "Untrue" = some (some (.ref cc_Untrue))) (ic_Untrue : PySem.W.isClsIn K cc_Untrue = true) (ty_Untrue : PySem.W.typeIn K (.ref cc_Untrue) = some (.type "type"))
    {cc_BadFile : Addr} (g_BadFile : PySem.W.nsIn K mainGlobals "BadFile" = some (some (.ref cc_BadFile))) (ic_BadFile : PySem.W.isClsIn K cc_BadFile = true) (ty_BadFile : PySem.W.typeIn K (.ref cc_BadFile) = some (.type "type"))
    {cc_BadStep : Addr} (g_BadStep : PySem.W.nsIn K mainGlobals "BadStep" = some (some (.ref cc_BadStep))) (ic_BadStep : PySem.W.isClsIn K cc_BadStep = true) (ty_BadStep : PySem.W.typeIn K (.ref cc_BadStep) = some (.type "type"))
    (bx_PagesError : PySem.W.subIn K (.ref cc_PagesError) (.type "BaseException") = some true)
    (o_hn : PySem.W.specialIn K (.builtin "object.__class__") "__get__" = some (some (.builtin "getset_descriptor.__get__"))) (o_ht : PySem.W.takesIn K (.builtin "object.__class__") = some true)
    {nm_TooWide q_TooWide : Str} {N_TooWide : Addr} {bs_TooWide bm_TooWide : List Value} {sn_TooWide : List Str} {sub_TooWide : List Value} {ab_TooWide : Bool} {col_TooWide : Option Bool} {dd_TooWide : Option Addr} {k0_TooWide k1_TooWide k2_TooWide k3_TooWide k5_TooWide : Option Value}
    (xL_TooWide : K.lookup cc_TooWide = some (excClassObj nm_TooWide q_TooWide cc_TooWide N_TooWide bs_TooWide bm_TooWide true sn_TooWide sub_TooWide ab_TooWide col_TooWide dd_TooWide k0_TooWide k1_TooWide k2_TooWide k3_TooWide k5_TooWide "ValueError.__new__"))
    (rv_TooWide : PySem.HandSPX.refsVE bm_TooWide = true)
    (sa_TooWide : PySem.W.findIn K (.ref cc_TooWide) "__setattr__" = some (some (.builtin "object.__setattr__")))
    (ga_TooWide : PySem.W.findIn K (.ref cc_TooWide) "__getattribute__" = some (some (.builtin "BaseException.__getattribute__")))
    (gg_TooWide : PySem.W.findIn K (.ref cc_TooWide) "__getattr__" = some none)
    (ex_TooWide : PySem.W.subIn K (.ref cc_TooWide) (.type "BaseException") = some true)
    (kp_TooWide : PySem.W.keepIn K (.ref cc_TooWide) = true)
    (hd_TooWide : PySem.W.hasDictIn K cc_TooWide = true)
    (ha_TooWide : PySem.W.findIn K (.ref cc_TooWide) "__class__" = some (some (.builtin "object.__class__")))
    (hm_TooWide : PySem.W.mroIn K cc_TooWide (.type "object") = some true)
    (vs_TooWide : PySem.W.subIn K (.ref cc_TooWide) (.type "ValueError") = some true)
    (no_TooWide_part : PySem.W.findIn K (.ref cc_TooWide) "part" = some none)
    (sb_TooWide_PagesError : PySem.W.subIn K (.ref cc_TooWide) (.ref cc_PagesError) = some true)
    (sb_TooWide_RecordError : PySem.W.subIn K (.ref cc_TooWide) (.ref cc_RecordError) = some false)
    (sb_TooWide_LimitError : PySem.W.subIn K (.ref cc_TooWide) (.ref cc_LimitError) = some true)
    (sb_TooWide_GivenError : PySem.W.subIn K (.ref cc_TooWide) (.ref cc_GivenError) = some false)
    (sb_TooWide_BadText : PySem.W.subIn K (.ref cc_TooWide) (.ref cc_BadText) = some false)
    (sb_TooWide_BadCall : PySem.W.subIn K (.ref cc_TooWide) (.ref cc_BadCall) = some false)
    (sb_TooWide_Misplaced : PySem.W.subIn K (.ref cc_TooWide) (.ref cc_Misplaced) = some false)
    (sb_TooWide_Unknown : PySem.W.subIn K (.ref cc_TooWide) (.ref cc_Unknown) = some false)
    (sb_TooWide_Twice : PySem.W.subIn K (.ref cc_TooWide) (.ref cc_Twice) = some false)
    (sb_TooWide_TooLong : PySem.W.subIn K (.ref cc_TooWide) (.ref cc_TooLong) = some false)
    (sb_TooWide_TooLarge : PySem.W.subIn K (.ref cc_TooWide) (.ref cc_TooLarge) = some false)
    (sb_TooWide_TooMany : PySem.W.subIn K (.ref cc_TooWide) (.ref cc_TooMany) = some false)
    (sb_TooWide_TooWide : PySem.W.subIn K (.ref cc_TooWide) (.ref cc_TooWide) = some true)
    (sb_TooWide_TooTall : PySem.W.subIn K (.ref cc_TooWide) (.ref cc_TooTall) = some false)
    (sb_TooWide_BadStyle : PySem.W.subIn K (.ref cc_TooWide) (.ref cc_BadStyle) = some false)
    (sb_TooWide_BadSecret : PySem.W.subIn K (.ref cc_TooWide) (.ref cc_BadSecret) = some false)
    (sb_TooWide_BadEnding : PySem.W.subIn K (.ref cc_TooWide) (.ref cc_BadEnding) = some false)
    (sb_TooWide_NoStem : PySem.W.subIn K (.ref cc_TooWide) (.ref cc_NoStem) = some false)
    (sb_TooWide_Untrue : PySem.W.subIn K (.ref cc_TooWide) (.ref cc_Untrue) = some false)
    (sb_TooWide_BadFile : PySem.W.subIn K (.ref cc_TooWide) (.ref cc_BadFile) = some false)
    (sb_TooWide_BadStep : PySem.W.subIn K (.ref cc_TooWide) (.ref cc_BadStep) = some false)
    {fi_TooWide : Addr} {odi_TooWide ani_TooWide : Option Addr} {sli_TooWide : Array (Option Value)} {oci_TooWide kVi_TooWide dci_TooWide pmi_TooWide cdi_TooWide cti_TooWide : Value}
    (ii_TooWide : PySem.W.findIn K (.ref cc_TooWide) "__init__" = some (some (.ref fi_TooWide))) (ti_TooWide : PySem.W.typeIn K (.ref fi_TooWide) = some (.type "function")) (li_TooWide : K.lookup fi_TooWide = some ⟨oci_TooWide, odi_TooWide, .func (PySem.W.fnOf "__init__" "TooWide.__init__" (defArgs s_TooWide_init) (defBody s_TooWide_init) (defScope s_TooWide_init) .none kVi_TooWide dci_TooWide pmi_TooWide ani_TooWide cdi_TooWide cti_TooWide), sli_TooWide⟩) (ci_TooWide : PySem.W.codeIn K cdi_TooWide "TooWide.__init__" = true) (ki_TooWide : PySem.W.keepIn K (.ref fi_TooWide) = true)
    : ∃ fd : FuncData, (∀ (s : Shared) (v : Value), BindsTo s fd ⟨[v], []⟩ [("_law_script", v)]) ∧ ∀ base : Heap, K.In base → base.Ns mainGlobals mg → FnOk l.prog w K mg base CX0 14 fa fd ["_law_script"] (spLaw K) := by
  have e := hfa.symm.trans (PySem.W.mg_of X G a_law)
  cases e
  have F_width_of := fun_mk (st := s_width_of) l_width_of c_width_of k_width_of
  have b_width_of := F_width_of.binds (ps := ["style", "sign"]) fun _ _ _ _ _ _ us hl => match us, hl with | [_, _], _ => rfl
  have F_cut_of := fun_mk (st := s_cut_of) l_cut_of c_cut_of k_cut_of
  have b_cut_of := F_cut_of.binds (ps := ["style", "sign", "next_sign"]) fun _ _ _ _ _ _ us hl => match us, hl with | [_, _, _], _ => rfl
  have F_break_price := fun_mk (st := s_break_price) l_break_price c_break_price k_break_price
  have b_break_price := F_break_price.binds (ps := ["style", "sign", "next_sign"]) fun _ _ _ _ _ _ us hl => match us, hl with | [_, _, _], _ => rfl
  have F_told := fun_mk (st := s_told) l_told c_told k_told
  have b_told := F_told.binds (ps := ["rows", "key", "otherwise"]) fun _ _ _ _ _ _ us hl => match us, hl with | [_, _, _], _ => rfl
  have F_signs_of := fun_mk (st := s_signs_of) l_signs_of c_signs_of k_signs_of
  have b_signs_of := F_signs_of.binds (ps := ["style", "word", "first", "behind"]) fun _ _ _ _ _ _ us hl => match us, hl with | [_, _, _, _], _ => rfl
  have F_signs_between := fun_mk (st := s_signs_between) l_signs_between c_signs_between k_signs_between
  have b_signs_between := F_signs_between.binds (ps := ["style", "word", "first", "last"]) fun _ _ _ _ _ _ us hl => match us, hl with | [_, _, _, _], _ => rfl
  have F_parting_places := fun_mk (st := s_parting_places) l_parting_places c_parting_places k_parting_places
  have b_parting_places := F_parting_places.binds (ps := ["style", "word"]) fun _ _ _ _ _ _ us hl => match us, hl with | [_, _], _ => rfl
  have F_width_at := fun_mk (st := s_width_at) l_width_at c_width_at k_width_at
  have b_width_at := F_width_at.binds (ps := ["style", "word", "at", "behind"]) fun _ _ _ _ _ _ us hl => match us, hl with | [_, _, _, _], _ => rfl
  have F_piece_strip := fun_mk (st := s_piece_strip) l_piece_strip c_piece_strip k_piece_strip
  have b_piece_strip := F_piece_strip.binds (ps := ["style", "word", "struck", "first", "last"]) fun _ _ _ _ _ _ us hl => match us, hl with | [_, _, _, _, _], _ => rfl
  have F_word_strip := fun_mk (st := s_word_strip) l_word_strip c_word_strip k_word_strip
  have b_word_strip := F_word_strip.binds (ps := ["style", "word", "struck"]) fun _ _ _ _ _ _ us hl => match us, hl with | [_, _, _], _ => rfl
  have F_plain_strip := fun_mk (st := s_plain_strip) l_plain_strip c_plain_strip k_plain_strip
  have b_plain_strip := F_plain_strip.binds (ps := ["signs"]) fun _ _ _ _ _ _ us hl => match us, hl with | [_], _ => rfl
  have F_blank_strip := fun_mk (st := s_blank_strip) l_blank_strip c_blank_strip k_blank_strip
  have b_blank_strip := F_blank_strip.binds (ps := ["width"]) fun _ _ _ _ _ _ us hl => match us, hl with | [_], _ => rfl
  have F_joined := fun_mk (st := s_joined) l_joined c_joined k_joined
  have b_joined := F_joined.binds (ps := ["strips"]) fun _ _ _ _ _ _ us hl => match us, hl with | [_], _ => rfl
  have F_placed := fun_mk (st := s_placed) l_placed c_placed k_placed
  have b_placed := F_placed.binds (ps := ["strip", "left", "width"]) fun _ _ _ _ _ _ us hl => match us, hl with | [_, _, _], _ => rfl
  have F_bare := fun_mk (st := s_bare) l_bare c_bare k_bare
  have b_bare := F_bare.binds (ps := ["strips"]) fun _ _ _ _ _ _ us hl => match us, hl with | [_], _ => rfl
  have F_boundaries := fun_mk (st := s_boundaries) l_boundaries c_boundaries k_boundaries
  have b_boundaries := F_boundaries.binds (ps := ["tracks", "cells"]) fun _ _ _ _ _ _ us hl => match us, hl with | [_, _], _ => rfl
  have F_chain_of := fun_mk (st := s_chain_of) l_chain_of c_chain_of k_chain_of
  have b_chain_of := F_chain_of.binds (ps := ["tracks", "cells", "boundary"]) fun _ _ _ _ _ _ us hl => match us, hl with | [_, _, _], _ => rfl
  have F_judge_chain := fun_mk (st := s_judge_chain) l_judge_chain c_judge_chain k_judge_chain
  have b_judge_chain := F_judge_chain.binds (ps := ["tracks", "cells", "boundary", "value", "chain"]) fun _ _ _ _ _ _ us hl => match us, hl with | [_, _, _, _, _], _ => rfl
  have F_table_strips := fun_mk (st := s_table_strips) l_table_strips c_table_strips k_table_strips
  have b_table_strips := F_table_strips.binds (ps := ["style", "rows"]) fun _ _ _ _ _ _ us hl => match us, hl with | [_, _], _ => rfl
  have F_traced_table := fun_mk (st := s_traced_table) l_traced_table c_traced_table k_traced_table
  have b_traced_table := F_traced_table.binds (ps := ["style", "rows"]) fun _ _ _ _ _ _ us hl => match us, hl with | [_, _], _ => rfl
  have F_demands := fun_mk (st := s_demands) l_demands c_demands k_demands
  have b_demands := F_demands.binds (ps := ["tracks", "cells"]) fun _ _ _ _ _ _ us hl => match us, hl with | [_, _], _ => rfl
  have F_cells_of := fun_mk (st := s_cells_of) l_cells_of c_cells_of k_cells_of
  have b_cells_of := F_cells_of.binds (ps := ["style", "row"]) fun _ _ _ _ _ _ us hl => match us, hl with | [_, _], _ => rfl
  have F_cell_strip := fun_mk (st := s_cell_strip) l_cell_strip c_cell_strip k_cell_strip
  have b_cell_strip := F_cell_strip.binds (ps := ["style", "words"]) fun _ _ _ _ _ _ us hl => match us, hl with | [_, _], _ => rfl
  have F_row_strip := fun_mk (st := s_row_strip) l_row_strip c_row_strip k_row_strip
  have b_row_strip := F_row_strip.binds (ps := ["measure", "bounds", "row"]) fun _ _ _ _ _ _ us hl => match us, hl with | [_, _, _], _ => rfl
  have F_law_begin := fun_mk (st := s_law_begin) l_law_begin c_law_begin k_law_begin
  have b_law_begin := F_law_begin.binds (ps := ["_law_script"]) fun _ _ _ _ _ _ us hl => match us, hl with | [_], _ => rfl
  have F_law_draw := fun_mk (st := s_law_draw) l_law_draw c_law_draw k_law_draw
  have b_law_draw := F_law_draw.binds (ps := ["_law_d", "_law_many"]) fun _ _ _ _ _ _ us hl => match us, hl with | [_, _], _ => rfl
  have F_law_pick := fun_mk (st := s_law_pick) l_law_pick c_law_pick k_law_pick
  have b_law_pick := F_law_pick.binds (ps := ["_law_d", "_law_row"]) fun _ _ _ _ _ _ us hl => match us, hl with | [_, _], _ => rfl
  have F_law_rare := fun_mk (st := s_law_rare) l_law_rare c_law_rare k_law_rare
  have b_law_rare := F_law_rare.binds (ps := ["_law_d", "_law_many"]) fun _ _ _ _ _ _ us hl => match us, hl with | [_, _], _ => rfl
  have F_law_word := fun_mk (st := s_law_word) l_law_word c_law_word k_law_word
  have b_law_word := F_law_word.binds (ps := ["_law_d", "_law_low", "_law_high"]) fun _ _ _ _ _ _ us hl => match us, hl with | [_, _, _], _ => rfl
  have F_law_style := fun_mk (st := s_law_style) l_law_style c_law_style k_law_style
  have b_law_style := F_law_style.binds (ps := ["_law_d", "_law_measure", "_law_depth", "_law_columns"]) fun _ _ _ _ _ _ us hl => match us, hl with | [_, _, _, _], _ => rfl
  have F_law_piece := fun_mk (st := s_law_piece) l_law_piece c_law_piece k_law_piece
  have b_law_piece := F_law_piece.binds (ps := ["_law_style_here", "_law_word_here", "_law_first", "_law_behind"]) fun _ _ _ _ _ _ us hl => match us, hl with | [_, _, _, _], _ => rfl
  have F_law_covered := fun_mk (st := s_law_covered) l_law_covered c_law_covered k_law_covered
  have b_law_covered := F_law_covered.binds (ps := ["_law_strip"]) fun _ _ _ _ _ _ us hl => match us, hl with | [_], _ => rfl
  have F_law_exact := fun_mk (st := s_law_exact) l_law_exact c_law_exact k_law_exact
  have b_law_exact := F_law_exact.binds (ps := ["_law_told_here", "_law_due"]) fun _ _ _ _ _ _ us hl => match us, hl with | [_, _], _ => rfl
  have F_law_told_error := fun_mk (st := s_law_told_error) l_law_told_error c_law_told_error k_law_told_error
  have b_law_told_error := F_law_told_error.binds (ps := ["_law_e"]) fun _ _ _ _ _ _ us hl => match us, hl with | [_], _ => rfl
  have F_law_faced := fun_mk (st := s_law_faced) l_law_faced c_law_faced k_law_faced
  have b_law_faced := F_law_faced.binds (ps := ["_law_d", "_law_style_here"]) fun _ _ _ _ _ _ us hl => match us, hl with | [_, _], _ => rfl
  have F_law_style_drawn := fun_mk (st := s_law_style_drawn) l_law_style_drawn c_law_style_drawn k_law_style_drawn
  have b_law_style_drawn := F_law_style_drawn.binds (ps := ["_law_d"]) fun _ _ _ _ _ _ us hl => match us, hl with | [_], _ => rfl
  have F_law_long_word := fun_mk (st := s_law_long_word) l_law_long_word c_law_long_word k_law_long_word
  have b_law_long_word := F_law_long_word.binds (ps := ["_law_d", "_law_many"]) fun _ _ _ _ _ _ us hl => match us, hl with | [_, _], _ => rfl
  have F_law_cell_drawn := fun_mk (st := s_law_cell_drawn) l_law_cell_drawn c_law_cell_drawn k_law_cell_drawn
  have b_law_cell_drawn := F_law_cell_drawn.binds (ps := ["_law_d", "_law_cells"]) fun _ _ _ _ _ _ us hl => match us, hl with | [_, _], _ => rfl
  have F_law_row_drawn := fun_mk (st := s_law_row_drawn) l_law_row_drawn c_law_row_drawn k_law_row_drawn
  have b_law_row_drawn := F_law_row_drawn.binds (ps := ["_law_d", "_law_many"]) fun _ _ _ _ _ _ us hl => match us, hl with | [_, _], _ => rfl
  have F_law_rows_drawn := fun_mk (st := s_law_rows_drawn) l_law_rows_drawn c_law_rows_drawn k_law_rows_drawn
  have b_law_rows_drawn := F_law_rows_drawn.binds (ps := ["_law_d"]) fun _ _ _ _ _ _ us hl => match us, hl with | [_], _ => rfl
  have F_law_cell_signs := fun_mk (st := s_law_cell_signs) l_law_cell_signs c_law_cell_signs k_law_cell_signs
  have b_law_cell_signs := F_law_cell_signs.binds (ps := ["_law_style_here", "_law_words"]) fun _ _ _ _ _ _ us hl => match us, hl with | [_, _], _ => rfl
  have F_law_cells_of := fun_mk (st := s_law_cells_of) l_law_cells_of c_law_cells_of k_law_cells_of
  have b_law_cells_of := F_law_cells_of.binds (ps := ["_law_style_here", "_law_rows"]) fun _ _ _ _ _ _ us hl => match us, hl with | [_, _], _ => rfl
  have F_law_asked_of := fun_mk (st := s_law_asked_of) l_law_asked_of c_law_asked_of k_law_asked_of
  have b_law_asked_of := F_law_asked_of.binds (ps := ["_law_cells", "_law_ways", "_law_last"]) fun _ _ _ _ _ _ us hl => match us, hl with | [_, _, _], _ => rfl
  have F_law_integers := fun_mk (st := s_law_integers) l_law_integers c_law_integers k_law_integers
  have b_law_integers := F_law_integers.binds (ps := ["_law_told_here", "_law_many"]) fun _ _ _ _ _ _ us hl => match us, hl with | [_, _], _ => rfl
  have F_law_least := fun_mk (st := s_law_least) l_law_least c_law_least k_law_least
  have b_law_least := F_law_least.binds (ps := ["_law_tracks", "_law_cells", "_law_told_here"]) fun _ _ _ _ _ _ us hl => match us, hl with | [_, _, _], _ => rfl
  have F_law_not_less := fun_mk (st := s_law_not_less) l_law_not_less c_law_not_less k_law_not_less
  have b_law_not_less := F_law_not_less.binds (ps := ["_law_d", "_law_tracks", "_law_cells", "_law_told_here"]) fun _ _ _ _ _ _ us hl => match us, hl with | [_, _, _, _], _ => rfl
  have F_law_demand := fun_mk (st := s_law_demand) l_law_demand c_law_demand k_law_demand
  have b_law_demand := F_law_demand.binds (ps := ["_law_cells", "_law_first", "_law_last"]) fun _ _ _ _ _ _ us hl => match us, hl with | [_, _, _], _ => rfl
  have F_law_walked := fun_mk (st := s_law_walked) l_law_walked c_law_walked k_law_walked
  have b_law_walked := F_law_walked.binds (ps := ["_law_cells", "_law_boundary", "_law_chain"]) fun _ _ _ _ _ _ us hl => match us, hl with | [_, _, _], _ => rfl
  have F_law_chains_right := fun_mk (st := s_law_chains_right) l_law_chains_right c_law_chains_right k_law_chains_right
  have b_law_chains_right := F_law_chains_right.binds (ps := ["_law_d", "_law_tracks", "_law_cells", "_law_told_here"]) fun _ _ _ _ _ _ us hl => match us, hl with | [_, _, _, _], _ => rfl
  have F_law_moved_right := fun_mk (st := s_law_moved_right) l_law_moved_right c_law_moved_right k_law_moved_right
  have b_law_moved_right := F_law_moved_right.binds (ps := ["_law_d", "_law_tracks", "_law_cells", "_law_told_here"]) fun _ _ _ _ _ _ us hl => match us, hl with | [_, _, _, _], _ => rfl
  have F_law_told := fun_mk (st := s_law_told) l_law_told c_law_told k_law_told
  have b_law_told := F_law_told.binds (ps := ["_law_style_here", "_law_rows"]) fun _ _ _ _ _ _ us hl => match us, hl with | [_, _], _ => rfl
  have F_law_row_right := fun_mk (st := s_law_row_right) l_law_row_right c_law_row_right k_law_row_right
  have b_law_row_right := F_law_row_right.binds (ps := ["_law_style_here", "_law_row", "_law_told_here", "_law_strip"]) fun _ _ _ _ _ _ us hl => match us, hl with | [_, _, _, _], _ => rfl
  have F_law_like := fun_mk (st := s_law_like) l_law_like c_law_like k_law_like
  have b_law_like := F_law_like.binds (ps := ["_law_told_here", "_law_many", "_law_wide"]) fun _ _ _ _ _ _ us hl => match us, hl with | [_, _, _], _ => rfl
  have F_law_exchanged := fun_mk (st := s_law_exchanged) l_law_exchanged c_law_exchanged k_law_exchanged
  have b_law_exchanged := F_law_exchanged.binds (ps := ["_law_style_here", "_law_words"]) fun _ _ _ _ _ _ us hl => match us, hl with | [_, _], _ => rfl
  have F_law_strips_right := fun_mk (st := s_law_strips_right) l_law_strips_right c_law_strips_right k_law_strips_right
  have b_law_strips_right := F_law_strips_right.binds (ps := ["_law_style_here", "_law_rows", "_law_told_here"]) fun _ _ _ _ _ _ us hl => match us, hl with | [_, _, _], _ => rfl
  have F_law := fun_mk (st := s_law) l_law c_law k_law
  have b_law := F_law.binds (ps := ["_law_script"]) fun _ _ _ _ _ _ us hl => match us, hl with | [_], _ => rfl
  have Fi_TooWide := fun_mk (st := s_TooWide_init) li_TooWide ci_TooWide ki_TooWide
  have bi_TooWide := Fi_TooWide.binds (ps := ["self", "part"]) fun _ _ _ _ _ _ us hl => match us, hl with | [_, _], _ => rfl
  exact ⟨PySem.W.fnOf "law" "law" (defArgs s_law) (defBody s_law) (defScope s_law) .none kV_law dc_law pm_law an_law cd_law ct_law, fun s v => .of_eq rfl, fun base _ _ => ok_law (T := {
    a_width_of := _,
    d_width_of := _,
    D_width_of := ⟨F_width_of, PySem.W.mg_of X G a_width_of, b_width_of, ⟨_, _, _, _, _, _, rfl⟩⟩,
    a_cut_of := _,
    d_cut_of := _,
    D_cut_of := ⟨F_cut_of, PySem.W.mg_of X G a_cut_of, b_cut_of, ⟨_, _, _, _, _, _, rfl⟩⟩,
    a_break_price := _,
    d_break_price := _,
    D_break_price := ⟨F_break_price, PySem.W.mg_of X G a_break_price, b_break_price, ⟨_, _, _, _, _, _, rfl⟩⟩,
    a_told := _,
    d_told := _,
    D_told := ⟨F_told, PySem.W.mg_of X G a_told, b_told, ⟨_, _, _, _, _, _, rfl⟩⟩,
    a_signs_of := _,
    d_signs_of := _,
    D_signs_of := ⟨F_signs_of, PySem.W.mg_of X G a_signs_of, b_signs_of, ⟨_, _, _, _, _, _, rfl⟩⟩,
    a_signs_between := _,
    d_signs_between := _,
    D_signs_between := ⟨F_signs_between, PySem.W.mg_of X G a_signs_between, b_signs_between, ⟨_, _, _, _, _, _, rfl⟩⟩,
    a_parting_places := _,
    d_parting_places := _,
    D_parting_places := ⟨F_parting_places, PySem.W.mg_of X G a_parting_places, b_parting_places, ⟨_, _, _, _, _, _, rfl⟩⟩,
    a_width_at := _,
    d_width_at := _,
    D_width_at := ⟨F_width_at, PySem.W.mg_of X G a_width_at, b_width_at, ⟨_, _, _, _, _, _, rfl⟩⟩,
    a_piece_strip := _,
    d_piece_strip := _,
    D_piece_strip := ⟨F_piece_strip, PySem.W.mg_of X G a_piece_strip, b_piece_strip, ⟨_, _, _, _, _, _, rfl⟩⟩,
    a_word_strip := _,
    d_word_strip := _,
    D_word_strip := ⟨F_word_strip, PySem.W.mg_of X G a_word_strip, b_word_strip, ⟨_, _, _, _, _, _, rfl⟩⟩,
    a_plain_strip := _,
    d_plain_strip := _,
    D_plain_strip := ⟨F_plain_strip, PySem.W.mg_of X G a_plain_strip, b_plain_strip, ⟨_, _, _, _, _, _, rfl⟩⟩,
    a_blank_strip := _,
    d_blank_strip := _,
    D_blank_strip := ⟨F_blank_strip, PySem.W.mg_of X G a_blank_strip, b_blank_strip, ⟨_, _, _, _, _, _, rfl⟩⟩,
    a_joined := _,
    d_joined := _,
    D_joined := ⟨F_joined, PySem.W.mg_of X G a_joined, b_joined, ⟨_, _, _, _, _, _, rfl⟩⟩,
    a_placed := _,
    d_placed := _,
    D_placed := ⟨F_placed, PySem.W.mg_of X G a_placed, b_placed, ⟨_, _, _, _, _, _, rfl⟩⟩,
    a_bare := _,
    d_bare := _,
    D_bare := ⟨F_bare, PySem.W.mg_of X G a_bare, b_bare, ⟨_, _, _, _, _, _, rfl⟩⟩,
    a_boundaries := _,
    d_boundaries := _,
    D_boundaries := ⟨F_boundaries, PySem.W.mg_of X G a_boundaries, b_boundaries, ⟨_, _, _, _, _, _, rfl⟩⟩,
    a_chain_of := _,
    d_chain_of := _,
    D_chain_of := ⟨F_chain_of, PySem.W.mg_of X G a_chain_of, b_chain_of, ⟨_, _, _, _, _, _, rfl⟩⟩,
    a_judge_chain := _,
    d_judge_chain := _,
    D_judge_chain := ⟨F_judge_chain, PySem.W.mg_of X G a_judge_chain, b_judge_chain, ⟨_, _, _, _, _, _, rfl⟩⟩,
    a_table_strips := _,
    d_table_strips := _,
    D_table_strips := ⟨F_table_strips, PySem.W.mg_of X G a_table_strips, b_table_strips, ⟨_, _, _, _, _, _, rfl⟩⟩,
    a_traced_table := _,
    d_traced_table := _,
    D_traced_table := ⟨F_traced_table, PySem.W.mg_of X G a_traced_table, b_traced_table, ⟨_, _, _, _, _, _, rfl⟩⟩,
    a_demands := _,
    d_demands := _,
    D_demands := ⟨F_demands, PySem.W.mg_of X G a_demands, b_demands, ⟨_, _, _, _, _, _, rfl⟩⟩,
    a_cells_of := _,
    d_cells_of := _,
    D_cells_of := ⟨F_cells_of, PySem.W.mg_of X G a_cells_of, b_cells_of, ⟨_, _, _, _, _, _, rfl⟩⟩,
    a_cell_strip := _,
    d_cell_strip := _,
    D_cell_strip := ⟨F_cell_strip, PySem.W.mg_of X G a_cell_strip, b_cell_strip, ⟨_, _, _, _, _, _, rfl⟩⟩,
    a_row_strip := _,
    d_row_strip := _,
    D_row_strip := ⟨F_row_strip, PySem.W.mg_of X G a_row_strip, b_row_strip, ⟨_, _, _, _, _, _, rfl⟩⟩,
    a_law_begin := _,
    d_law_begin := _,
    D_law_begin := ⟨F_law_begin, PySem.W.mg_of X G a_law_begin, b_law_begin, ⟨_, _, _, _, _, _, rfl⟩⟩,
    a_law_draw := _,
    d_law_draw := _,
    D_law_draw := ⟨F_law_draw, PySem.W.mg_of X G a_law_draw, b_law_draw, ⟨_, _, _, _, _, _, rfl⟩⟩,
    a_law_pick := _,
    d_law_pick := _,
    D_law_pick := ⟨F_law_pick, PySem.W.mg_of X G a_law_pick, b_law_pick, ⟨_, _, _, _, _, _, rfl⟩⟩,
    a_law_rare := _,
    d_law_rare := _,
    D_law_rare := ⟨F_law_rare, PySem.W.mg_of X G a_law_rare, b_law_rare, ⟨_, _, _, _, _, _, rfl⟩⟩,
    a_law_word := _,
    d_law_word := _,
    D_law_word := ⟨F_law_word, PySem.W.mg_of X G a_law_word, b_law_word, ⟨_, _, _, _, _, _, rfl⟩⟩,
    a_law_style := _,
    d_law_style := _,
    D_law_style := ⟨F_law_style, PySem.W.mg_of X G a_law_style, b_law_style, ⟨_, _, _, _, _, _, rfl⟩⟩,
    a_law_piece := _,
    d_law_piece := _,
    D_law_piece := ⟨F_law_piece, PySem.W.mg_of X G a_law_piece, b_law_piece, ⟨_, _, _, _, _, _, rfl⟩⟩,
    a_law_covered := _,
    d_law_covered := _,
    D_law_covered := ⟨F_law_covered, PySem.W.mg_of X G a_law_covered, b_law_covered, ⟨_, _, _, _, _, _, rfl⟩⟩,
    a_law_exact := _,
    d_law_exact := _,
    D_law_exact := ⟨F_law_exact, PySem.W.mg_of X G a_law_exact, b_law_exact, ⟨_, _, _, _, _, _, rfl⟩⟩,
    a_law_told_error := _,
    d_law_told_error := _,
    D_law_told_error := ⟨F_law_told_error, PySem.W.mg_of X G a_law_told_error, b_law_told_error, ⟨_, _, _, _, _, _, rfl⟩⟩,
    a_law_faced := _,
    d_law_faced := _,
    D_law_faced := ⟨F_law_faced, PySem.W.mg_of X G a_law_faced, b_law_faced, ⟨_, _, _, _, _, _, rfl⟩⟩,
    a_law_style_drawn := _,
    d_law_style_drawn := _,
    D_law_style_drawn := ⟨F_law_style_drawn, PySem.W.mg_of X G a_law_style_drawn, b_law_style_drawn, ⟨_, _, _, _, _, _, rfl⟩⟩,
    a_law_long_word := _,
    d_law_long_word := _,
    D_law_long_word := ⟨F_law_long_word, PySem.W.mg_of X G a_law_long_word, b_law_long_word, ⟨_, _, _, _, _, _, rfl⟩⟩,
    a_law_cell_drawn := _,
    d_law_cell_drawn := _,
    D_law_cell_drawn := ⟨F_law_cell_drawn, PySem.W.mg_of X G a_law_cell_drawn, b_law_cell_drawn, ⟨_, _, _, _, _, _, rfl⟩⟩,
    a_law_row_drawn := _,
    d_law_row_drawn := _,
    D_law_row_drawn := ⟨F_law_row_drawn, PySem.W.mg_of X G a_law_row_drawn, b_law_row_drawn, ⟨_, _, _, _, _, _, rfl⟩⟩,
    a_law_rows_drawn := _,
    d_law_rows_drawn := _,
    D_law_rows_drawn := ⟨F_law_rows_drawn, PySem.W.mg_of X G a_law_rows_drawn, b_law_rows_drawn, ⟨_, _, _, _, _, _, rfl⟩⟩,
    a_law_cell_signs := _,
    d_law_cell_signs := _,
    D_law_cell_signs := ⟨F_law_cell_signs, PySem.W.mg_of X G a_law_cell_signs, b_law_cell_signs, ⟨_, _, _, _, _, _, rfl⟩⟩,
    a_law_cells_of := _,
    d_law_cells_of := _,
    D_law_cells_of := ⟨F_law_cells_of, PySem.W.mg_of X G a_law_cells_of, b_law_cells_of, ⟨_, _, _, _, _, _, rfl⟩⟩,
    a_law_asked_of := _,
    d_law_asked_of := _,
    D_law_asked_of := ⟨F_law_asked_of, PySem.W.mg_of X G a_law_asked_of, b_law_asked_of, ⟨_, _, _, _, _, _, rfl⟩⟩,
    a_law_integers := _,
    d_law_integers := _,
    D_law_integers := ⟨F_law_integers, PySem.W.mg_of X G a_law_integers, b_law_integers, ⟨_, _, _, _, _, _, rfl⟩⟩,
    a_law_least := _,
    d_law_least := _,
    D_law_least := ⟨F_law_least, PySem.W.mg_of X G a_law_least, b_law_least, ⟨_, _, _, _, _, _, rfl⟩⟩,
    a_law_not_less := _,
    d_law_not_less := _,
    D_law_not_less := ⟨F_law_not_less, PySem.W.mg_of X G a_law_not_less, b_law_not_less, ⟨_, _, _, _, _, _, rfl⟩⟩,
    a_law_demand := _,
    d_law_demand := _,
    D_law_demand := ⟨F_law_demand, PySem.W.mg_of X G a_law_demand, b_law_demand, ⟨_, _, _, _, _, _, rfl⟩⟩,
    a_law_walked := _,
    d_law_walked := _,
    D_law_walked := ⟨F_law_walked, PySem.W.mg_of X G a_law_walked, b_law_walked, ⟨_, _, _, _, _, _, rfl⟩⟩,
    a_law_chains_right := _,
    d_law_chains_right := _,
    D_law_chains_right := ⟨F_law_chains_right, PySem.W.mg_of X G a_law_chains_right, b_law_chains_right, ⟨_, _, _, _, _, _, rfl⟩⟩,
    a_law_moved_right := _,
    d_law_moved_right := _,
    D_law_moved_right := ⟨F_law_moved_right, PySem.W.mg_of X G a_law_moved_right, b_law_moved_right, ⟨_, _, _, _, _, _, rfl⟩⟩,
    a_law_told := _,
    d_law_told := _,
    D_law_told := ⟨F_law_told, PySem.W.mg_of X G a_law_told, b_law_told, ⟨_, _, _, _, _, _, rfl⟩⟩,
    a_law_row_right := _,
    d_law_row_right := _,
    D_law_row_right := ⟨F_law_row_right, PySem.W.mg_of X G a_law_row_right, b_law_row_right, ⟨_, _, _, _, _, _, rfl⟩⟩,
    a_law_like := _,
    d_law_like := _,
    D_law_like := ⟨F_law_like, PySem.W.mg_of X G a_law_like, b_law_like, ⟨_, _, _, _, _, _, rfl⟩⟩,
    a_law_exchanged := _,
    d_law_exchanged := _,
    D_law_exchanged := ⟨F_law_exchanged, PySem.W.mg_of X G a_law_exchanged, b_law_exchanged, ⟨_, _, _, _, _, _, rfl⟩⟩,
    a_law_strips_right := _,
    d_law_strips_right := _,
    D_law_strips_right := ⟨F_law_strips_right, PySem.W.mg_of X G a_law_strips_right, b_law_strips_right, ⟨_, _, _, _, _, _, rfl⟩⟩,
    a_law := _,
    d_law := _,
    D_law := ⟨F_law, PySem.W.mg_of X G a_law, b_law, ⟨_, _, _, _, _, _, rfl⟩⟩,
    t_HYPHEN := _,
    m_HYPHEN := PySem.W.mg_of X G m_HYPHEN,
    t_FILLER := _,
    m_FILLER := PySem.W.mg_of X G m_FILLER,
    t_COVER := _,
    m_COVER := PySem.W.mg_of X G m_COVER,
    t_BLANK := _,
    m_BLANK := PySem.W.mg_of X G m_BLANK,
    n_ValueError := PySem.W.mg_none_of X G n_ValueError,
    n_bool := PySem.W.mg_none_of X G n_bool,
    n_int := PySem.W.mg_none_of X G n_int,
    n_isinstance := PySem.W.mg_none_of X G n_isinstance,
    n_len := PySem.W.mg_none_of X G n_len,
    n_list := PySem.W.mg_none_of X G n_list,
    n_max := PySem.W.mg_none_of X G n_max,
    n_min := PySem.W.mg_none_of X G n_min,
    n_range := PySem.W.mg_none_of X G n_range,
    n_reversed := PySem.W.mg_none_of X G n_reversed,
    n_sorted := PySem.W.mg_none_of X G n_sorted,
    n_str := PySem.W.mg_none_of X G n_str,
    n_tuple := PySem.W.mg_none_of X G n_tuple,
    n_zip := PySem.W.mg_none_of X G n_zip,
    c_PagesError := _,
    C_PagesError := ⟨PySem.W.mg_of X G g_PagesError, ic_PagesError, ty_PagesError⟩,
    c_RecordError := _,
    C_RecordError := ⟨PySem.W.mg_of X G g_RecordError, ic_RecordError, ty_RecordError⟩,
    c_LimitError := _,
    C_LimitError := ⟨PySem.W.mg_of X G g_LimitError, ic_LimitError, ty_LimitError⟩,
    c_GivenError := _,
    C_GivenError := ⟨PySem.W.mg_of X G g_GivenError, ic_GivenError, ty_GivenError⟩,
    c_BadText := _,
    C_BadText := ⟨PySem.W.mg_of X G g_BadText, ic_BadText, ty_BadText⟩,
    c_BadCall := _,
    C_BadCall := ⟨PySem.W.mg_of X G g_BadCall, ic_BadCall, ty_BadCall⟩,
    c_Misplaced := _,
    C_Misplaced := ⟨PySem.W.mg_of X G g_Misplaced, ic_Misplaced, ty_Misplaced⟩,
    c_Unknown := _,
    C_Unknown := ⟨PySem.W.mg_of X G g_Unknown, ic_Unknown, ty_Unknown⟩,
    c_Twice := _,
    C_Twice := ⟨PySem.W.mg_of X G g_Twice, ic_Twice, ty_Twice⟩,
    c_TooLong := _,
    C_TooLong := ⟨PySem.W.mg_of X G g_TooLong, ic_TooLong, ty_TooLong⟩,
    c_TooLarge := _,
    C_TooLarge := ⟨PySem.W.mg_of X G g_TooLarge, ic_TooLarge, ty_TooLarge⟩,
    c_TooMany := _,
    C_TooMany := ⟨PySem.W.mg_of X G g_TooMany, ic_TooMany, ty_TooMany⟩,
    c_TooWide := _,
    C_TooWide := ⟨PySem.W.mg_of X G g_TooWide, ic_TooWide, ty_TooWide⟩,
    c_TooTall := _,
    C_TooTall := ⟨PySem.W.mg_of X G g_TooTall, ic_TooTall, ty_TooTall⟩,
    c_BadStyle := _,
    C_BadStyle := ⟨PySem.W.mg_of X G g_BadStyle, ic_BadStyle, ty_BadStyle⟩,
    c_BadSecret := _,
    C_BadSecret := ⟨PySem.W.mg_of X G g_BadSecret, ic_BadSecret, ty_BadSecret⟩,
    c_BadEnding := _,
    C_BadEnding := ⟨PySem.W.mg_of X G g_BadEnding, ic_BadEnding, ty_BadEnding⟩,
    c_NoStem := _,
    C_NoStem := ⟨PySem.W.mg_of X G g_NoStem, ic_NoStem, ty_NoStem⟩,
    c_Untrue := _,
    C_Untrue := ⟨PySem.W.mg_of X G g_Untrue, ic_Untrue, ty_Untrue⟩,
    c_BadFile := _,
    C_BadFile := ⟨PySem.W.mg_of X G g_BadFile, ic_BadFile, ty_BadFile⟩,
    c_BadStep := _,
    C_BadStep := ⟨PySem.W.mg_of X G g_BadStep, ic_BadStep, ty_BadStep⟩,
    i_TooWide := _,
    d_TooWide := _,
    E_TooWide := ⟨PySem.W.mg_of X G g_TooWide, ⟨⟨_, _, _, _, _, _, _, _, _, _, _, _, _, _, _, xL_TooWide, rv_TooWide⟩, sa_TooWide, ex_TooWide, ty_TooWide, kp_TooWide⟩, ⟨ga_TooWide, gg_TooWide, ex_TooWide, hd_TooWide, ha_TooWide, o_hn, o_ht, hm_TooWide⟩, ⟨ga_TooWide, gg_TooWide, ex_TooWide, hd_TooWide⟩, ii_TooWide, ti_TooWide, Fi_TooWide, bi_TooWide, fun f hf => by simp only [List.mem_cons, List.not_mem_nil, or_false] at hf; subst hf; exact no_TooWide_part⟩,
    k_TooWide_PagesError := kit_ref sb_TooWide_TooWide ic_PagesError ty_PagesError sb_TooWide_PagesError,
    k_TooWide_RecordError := kit_ref sb_TooWide_TooWide ic_RecordError ty_RecordError sb_TooWide_RecordError,
    k_TooWide_LimitError := kit_ref sb_TooWide_TooWide ic_LimitError ty_LimitError sb_TooWide_LimitError,
    k_TooWide_GivenError := kit_ref sb_TooWide_TooWide ic_GivenError ty_GivenError sb_TooWide_GivenError,
    k_TooWide_BadText := kit_ref sb_TooWide_TooWide ic_BadText ty_BadText sb_TooWide_BadText,
    k_TooWide_BadCall := kit_ref sb_TooWide_TooWide ic_BadCall ty_BadCall sb_TooWide_BadCall,
    k_TooWide_Misplaced := kit_ref sb_TooWide_TooWide ic_Misplaced ty_Misplaced sb_TooWide_Misplaced,
    k_TooWide_Unknown := kit_ref sb_TooWide_TooWide ic_Unknown ty_Unknown sb_TooWide_Unknown,
    k_TooWide_Twice := kit_ref sb_TooWide_TooWide ic_Twice ty_Twice sb_TooWide_Twice,
    k_TooWide_TooLong := kit_ref sb_TooWide_TooWide ic_TooLong ty_TooLong sb_TooWide_TooLong,
    k_TooWide_TooLarge := kit_ref sb_TooWide_TooWide ic_TooLarge ty_TooLarge sb_TooWide_TooLarge,
    k_TooWide_TooMany := kit_ref sb_TooWide_TooWide ic_TooMany ty_TooMany sb_TooWide_TooMany,
    k_TooWide_TooWide := kit_ref sb_TooWide_TooWide ic_TooWide ty_TooWide sb_TooWide_TooWide,
    k_TooWide_TooTall := kit_ref sb_TooWide_TooWide ic_TooTall ty_TooTall sb_TooWide_TooTall,
    k_TooWide_BadStyle := kit_ref sb_TooWide_TooWide ic_BadStyle ty_BadStyle sb_TooWide_BadStyle,
    k_TooWide_BadSecret := kit_ref sb_TooWide_TooWide ic_BadSecret ty_BadSecret sb_TooWide_BadSecret,
    k_TooWide_BadEnding := kit_ref sb_TooWide_TooWide ic_BadEnding ty_BadEnding sb_TooWide_BadEnding,
    k_TooWide_NoStem := kit_ref sb_TooWide_TooWide ic_NoStem ty_NoStem sb_TooWide_NoStem,
    k_TooWide_Untrue := kit_ref sb_TooWide_TooWide ic_Untrue ty_Untrue sb_TooWide_Untrue,
    k_TooWide_BadFile := kit_ref sb_TooWide_TooWide ic_BadFile ty_BadFile sb_TooWide_BadFile,
    k_TooWide_BadStep := kit_ref sb_TooWide_TooWide ic_BadStep ty_BadStep sb_TooWide_BadStep,
    v_TooWide := kit_typ vs_TooWide,
    x_TooWide := exm_ref bx_PagesError ic_PagesError ty_PagesError sb_TooWide_PagesError })⟩
end Vf
open PySem PySem.W PyProof.Rows
set_option maxHeartbeats 0 in
theorem PySem.Challenge.cw_hushedpages_k40_whole_tables_least_holds : PySem.Challenge.rw_hushedpages_k40_whole_tables_least.Holds := by
  w_on; o_law; k_head; (case hw => w_witness2)
  k_fill
  refine L2.walk_of (l := PySem.Challenge.rw_hushedpages_k40_whole_tables_least) (n := 63) (k := 14) (x := "_law_script") (CX := fun _ => L2.CX0) (sp := fun w => Vf.spLaw _) rfl (by decide) rfl ⟨rfl, by decide, by decide⟩ (fun w h Y => PySem.W.kIn_of Y) ?F (fun _ _ a ns hl _ hS => ⟨a, ns, rfl, hS, hl, fun _ => rfl⟩) (fun _ _ _ _ _ h => h)
  case F =>
    intro w mg fa h KX G hmg
    refine' Vf.all_mk KX G hmg ?a_width_of ?l_width_of ?c_width_of ?k_width_of ?a_cut_of ?l_cut_of ?c_cut_of ?k_cut_of ?a_break_price ?l_break_price ?c_break_price ?k_break_price ?a_told ?l_told ?c_told ?k_told ?a_signs_of ?l_signs_of ?c_signs_of ?k_signs_of ?a_signs_between ?l_signs_between ?c_signs_between ?k_signs_between ?a_parting_places ?l_parting_places ?c_parting_places ?k_parting_places ?a_width_at ?l_width_at ?c_width_at ?k_width_at ?a_piece_strip ?l_piece_strip ?c_piece_strip ?k_piece_strip ?a_word_strip ?l_word_strip ?c_word_strip ?k_word_strip ?a_plain_strip ?l_plain_strip ?c_plain_strip ?k_plain_strip ?a_blank_strip ?l_blank_strip ?c_blank_strip ?k_blank_strip ?a_joined ?l_joined ?c_joined ?k_joined ?a_placed ?l_placed ?c_placed ?k_placed ?a_bare ?l_bare ?c_bare ?k_bare ?a_boundaries ?l_boundaries ?c_boundaries ?k_boundaries ?a_chain_of ?l_chain_of ?c_chain_of ?k_chain_of ?a_judge_chain ?l_judge_chain ?c_judge_chain ?k_judge_chain ?a_table_strips ?l_table_strips ?c_table_strips ?k_table_strips ?a_traced_table ?l_traced_table ?c_traced_table ?k_traced_table ?a_demands ?l_demands ?c_demands ?k_demands ?a_cells_of ?l_cells_of ?c_cells_of ?k_cells_of ?a_cell_strip ?l_cell_strip ?c_cell_strip ?k_cell_strip ?a_row_strip ?l_row_strip ?c_row_strip ?k_row_strip ?a_law_begin ?l_law_begin ?c_law_begin ?k_law_begin ?a_law_draw ?l_law_draw ?c_law_draw ?k_law_draw ?a_law_pick ?l_law_pick ?c_law_pick ?k_law_pick ?a_law_rare ?l_law_rare ?c_law_rare ?k_law_rare ?a_law_word ?l_law_word ?c_law_word ?k_law_word ?a_law_style ?l_law_style ?c_law_style ?k_law_style ?a_law_piece ?l_law_piece ?c_law_piece ?k_law_piece ?a_law_covered ?l_law_covered ?c_law_covered ?k_law_covered ?a_law_exact ?l_law_exact ?c_law_exact ?k_law_exact ?a_law_told_error ?l_law_told_error ?c_law_told_error ?k_law_told_error ?a_law_faced ?l_law_faced ?c_law_faced ?k_law_faced ?a_law_style_drawn ?l_law_style_drawn ?c_law_style_drawn ?k_law_style_drawn ?a_law_long_word ?l_law_long_word ?c_law_long_word ?k_law_long_word ?a_law_cell_drawn ?l_law_cell_drawn ?c_law_cell_drawn ?k_law_cell_drawn ?a_law_row_drawn ?l_law_row_drawn ?c_law_row_drawn ?k_law_row_drawn ?a_law_rows_drawn ?l_law_rows_drawn ?c_law_rows_drawn ?k_law_rows_drawn ?a_law_cell_signs ?l_law_cell_signs ?c_law_cell_signs ?k_law_cell_signs ?a_law_cells_of ?l_law_cells_of ?c_law_cells_of ?k_law_cells_of ?a_law_asked_of ?l_law_asked_of ?c_law_asked_of ?k_law_asked_of ?a_law_integers ?l_law_integers ?c_law_integers ?k_law_integers ?a_law_least ?l_law_least ?c_law_least ?k_law_least ?a_law_not_less ?l_law_not_less ?c_law_not_less ?k_law_not_less ?a_law_demand ?l_law_demand ?c_law_demand ?k_law_demand ?a_law_walked ?l_law_walked ?c_law_walked ?k_law_walked ?a_law_chains_right ?l_law_chains_right ?c_law_chains_right ?k_law_chains_right ?a_law_moved_right ?l_law_moved_right ?c_law_moved_right ?k_law_moved_right ?a_law_told ?l_law_told ?c_law_told ?k_law_told ?a_law_row_right ?l_law_row_right ?c_law_row_right ?k_law_row_right ?a_law_like ?l_law_like ?c_law_like ?k_law_like ?a_law_exchanged ?l_law_exchanged ?c_law_exchanged ?k_law_exchanged ?a_law_strips_right ?l_law_strips_right ?c_law_strips_right ?k_law_strips_right ?a_law ?l_law ?c_law ?k_law ?m_HYPHEN ?m_FILLER ?m_COVER ?m_BLANK ?n_ValueError ?n_bool ?n_int ?n_isinstance ?n_len ?n_list ?n_max ?n_min ?n_range ?n_reversed ?n_sorted ?n_str ?n_tuple ?n_zip ?g_PagesError ?ic_PagesError ?ty_PagesError ?g_RecordError ?ic_RecordError ?ty_RecordError ?g_LimitError ?ic_LimitError ?ty_LimitError ?g_GivenError ?ic_GivenError ?ty_GivenError ?g_BadText ?ic_BadText ?ty_BadText ?g_BadCall ?ic_BadCall ?ty_BadCall ?g_Misplaced ?ic_Misplaced ?ty_Misplaced ?g_Unknown ?ic_Unknown ?ty_Unknown ?g_Twice ?ic_Twice ?ty_Twice ?g_TooLong ?ic_TooLong ?ty_TooLong ?g_TooLarge ?ic_TooLarge ?ty_TooLarge ?g_TooMany ?ic_TooMany ?ty_TooMany ?g_TooWide ?ic_TooWide ?ty_TooWide ?g_TooTall ?ic_TooTall ?ty_TooTall ?g_BadStyle ?ic_BadStyle ?ty_BadStyle ?g_BadSecret ?ic_BadSecret ?ty_BadSecret ?g_BadEnding ?ic_BadEnding ?ty_BadEnding ?g_NoStem ?ic_NoStem ?ty_NoStem ?g_Untrue ?ic_Untrue ?ty_Untrue ?g_BadFile ?ic_BadFile ?ty_BadFile ?g_BadStep ?ic_BadStep ?ty_BadStep ?bx_PagesError ?o_hn ?o_ht ?xL_TooWide ?rv_TooWide ?sa_TooWide ?ga_TooWide ?gg_TooWide ?ex_TooWide ?kp_TooWide ?hd_TooWide ?ha_TooWide ?hm_TooWide ?vs_TooWide ?no_TooWide_part ?sb_TooWide_PagesError ?sb_TooWide_RecordError ?sb_TooWide_LimitError ?sb_TooWide_GivenError ?sb_TooWide_BadText ?sb_TooWide_BadCall ?sb_TooWide_Misplaced ?sb_TooWide_Unknown ?sb_TooWide_Twice ?sb_TooWide_TooLong ?sb_TooWide_TooLarge ?sb_TooWide_TooMany ?sb_TooWide_TooWide ?sb_TooWide_TooTall ?sb_TooWide_BadStyle ?sb_TooWide_BadSecret ?sb_TooWide_BadEnding ?sb_TooWide_NoStem ?sb_TooWide_Untrue ?sb_TooWide_BadFile ?sb_TooWide_BadStep ?ii_TooWide ?ti_TooWide ?li_TooWide ?ci_TooWide ?ki_TooWide
    (case a_width_of => k_is)
    (case l_width_of => k_is)
    (case c_width_of => k_is)
    (case k_width_of => k_is)
    (case a_cut_of => k_is)
    (case l_cut_of => k_is)
    (case c_cut_of => k_is)
    (case k_cut_of => k_is)
    (case a_break_price => k_is)
    (case l_break_price => k_is)
    (case c_break_price => k_is)
    (case k_break_price => k_is)
    (case a_told => k_is)
    (case l_told => k_is)
    (case c_told => k_is)
    (case k_told => k_is)
    (case a_signs_of => k_is)
    (case l_signs_of => k_is)
    (case c_signs_of => k_is)
    (case k_signs_of => k_is)
    (case a_signs_between => k_is)
    (case l_signs_between => k_is)
    (case c_signs_between => k_is)
    (case k_signs_between => k_is)
    (case a_parting_places => k_is)
    (case l_parting_places => k_is)
    (case c_parting_places => k_is)
    (case k_parting_places => k_is)
    (case a_width_at => k_is)
    (case l_width_at => k_is)
    (case c_width_at => k_is)
    (case k_width_at => k_is)
    (case a_piece_strip => k_is)
    (case l_piece_strip => k_is)
    (case c_piece_strip => k_is)
    (case k_piece_strip => k_is)
    (case a_word_strip => k_is)
    (case l_word_strip => k_is)
    (case c_word_strip => k_is)
    (case k_word_strip => k_is)
    (case a_plain_strip => k_is)
    (case l_plain_strip => k_is)
    (case c_plain_strip => k_is)
    (case k_plain_strip => k_is)
    (case a_blank_strip => k_is)
    (case l_blank_strip => k_is)
    (case c_blank_strip => k_is)
    (case k_blank_strip => k_is)
    (case a_joined => k_is)
    (case l_joined => k_is)
    (case c_joined => k_is)
    (case k_joined => k_is)
    (case a_placed => k_is)
    (case l_placed => k_is)
    (case c_placed => k_is)
    (case k_placed => k_is)
    (case a_bare => k_is)
    (case l_bare => k_is)
    (case c_bare => k_is)
    (case k_bare => k_is)
    (case a_boundaries => k_is)
    (case l_boundaries => k_is)
    (case c_boundaries => k_is)
    (case k_boundaries => k_is)
    (case a_chain_of => k_is)
    (case l_chain_of => k_is)
    (case c_chain_of => k_is)
    (case k_chain_of => k_is)
    (case a_judge_chain => k_is)
    (case l_judge_chain => k_is)
    (case c_judge_chain => k_is)
    (case k_judge_chain => k_is)
    (case a_table_strips => k_is)
    (case l_table_strips => k_is)
    (case c_table_strips => k_is)
    (case k_table_strips => k_is)
    (case a_traced_table => k_is)
    (case l_traced_table => k_is)
    (case c_traced_table => k_is)
    (case k_traced_table => k_is)
    (case a_demands => k_is)
    (case l_demands => k_is)
    (case c_demands => k_is)
    (case k_demands => k_is)
    (case a_cells_of => k_is)
    (case l_cells_of => k_is)
    (case c_cells_of => k_is)
    (case k_cells_of => k_is)
    (case a_cell_strip => k_is)
    (case l_cell_strip => k_is)
    (case c_cell_strip => k_is)
    (case k_cell_strip => k_is)
    (case a_row_strip => k_is)
    (case l_row_strip => k_is)
    (case c_row_strip => k_is)
    (case k_row_strip => k_is)
    (case a_law_begin => k_is)
    (case l_law_begin => k_is)
    (case c_law_begin => k_is)
    (case k_law_begin => k_is)
    (case a_law_draw => k_is)
    (case l_law_draw => k_is)
    (case c_law_draw => k_is)
    (case k_law_draw => k_is)
    (case a_law_pick => k_is)
    (case l_law_pick => k_is)
    (case c_law_pick => k_is)
    (case k_law_pick => k_is)
    (case a_law_rare => k_is)
    (case l_law_rare => k_is)
    (case c_law_rare => k_is)
    (case k_law_rare => k_is)
    (case a_law_word => k_is)
    (case l_law_word => k_is)
    (case c_law_word => k_is)
    (case k_law_word => k_is)
    (case a_law_style => k_is)
    (case l_law_style => k_is)
    (case c_law_style => k_is)
    (case k_law_style => k_is)
    (case a_law_piece => k_is)
    (case l_law_piece => k_is)
    (case c_law_piece => k_is)
    (case k_law_piece => k_is)
    (case a_law_covered => k_is)
    (case l_law_covered => k_is)
    (case c_law_covered => k_is)
    (case k_law_covered => k_is)
    (case a_law_exact => k_is)
    (case l_law_exact => k_is)
    (case c_law_exact => k_is)
    (case k_law_exact => k_is)
    (case a_law_told_error => k_is)
    (case l_law_told_error => k_is)
    (case c_law_told_error => k_is)
    (case k_law_told_error => k_is)
    (case a_law_faced => k_is)
    (case l_law_faced => k_is)
    (case c_law_faced => k_is)
    (case k_law_faced => k_is)
    (case a_law_style_drawn => k_is)
    (case l_law_style_drawn => k_is)
    (case c_law_style_drawn => k_is)
    (case k_law_style_drawn => k_is)
    (case a_law_long_word => k_is)
    (case l_law_long_word => k_is)
    (case c_law_long_word => k_is)
    (case k_law_long_word => k_is)
    (case a_law_cell_drawn => k_is)
    (case l_law_cell_drawn => k_is)
    (case c_law_cell_drawn => k_is)
    (case k_law_cell_drawn => k_is)
    (case a_law_row_drawn => k_is)
    (case l_law_row_drawn => k_is)
    (case c_law_row_drawn => k_is)
    (case k_law_row_drawn => k_is)
    (case a_law_rows_drawn => k_is)
    (case l_law_rows_drawn => k_is)
    (case c_law_rows_drawn => k_is)
    (case k_law_rows_drawn => k_is)
    (case a_law_cell_signs => k_is)
    (case l_law_cell_signs => k_is)
    (case c_law_cell_signs => k_is)
    (case k_law_cell_signs => k_is)
    (case a_law_cells_of => k_is)
    (case l_law_cells_of => k_is)
    (case c_law_cells_of => k_is)
    (case k_law_cells_of => k_is)
    (case a_law_asked_of => k_is)
    (case l_law_asked_of => k_is)
    (case c_law_asked_of => k_is)
    (case k_law_asked_of => k_is)
    (case a_law_integers => k_is)
    (case l_law_integers => k_is)
    (case c_law_integers => k_is)
    (case k_law_integers => k_is)
    (case a_law_least => k_is)
    (case l_law_least => k_is)
    (case c_law_least => k_is)
    (case k_law_least => k_is)
    (case a_law_not_less => k_is)
    (case l_law_not_less => k_is)
    (case c_law_not_less => k_is)
    (case k_law_not_less => k_is)
    (case a_law_demand => k_is)
    (case l_law_demand => k_is)
    (case c_law_demand => k_is)
    (case k_law_demand => k_is)
    (case a_law_walked => k_is)
    (case l_law_walked => k_is)
    (case c_law_walked => k_is)
    (case k_law_walked => k_is)
    (case a_law_chains_right => k_is)
    (case l_law_chains_right => k_is)
    (case c_law_chains_right => k_is)
    (case k_law_chains_right => k_is)
    (case a_law_moved_right => k_is)
    (case l_law_moved_right => k_is)
    (case c_law_moved_right => k_is)
    (case k_law_moved_right => k_is)
    (case a_law_told => k_is)
    (case l_law_told => k_is)
    (case c_law_told => k_is)
    (case k_law_told => k_is)
    (case a_law_row_right => k_is)
    (case l_law_row_right => k_is)
    (case c_law_row_right => k_is)
    (case k_law_row_right => k_is)
    (case a_law_like => k_is)
    (case l_law_like => k_is)
    (case c_law_like => k_is)
    (case k_law_like => k_is)
    (case a_law_exchanged => k_is)
    (case l_law_exchanged => k_is)
    (case c_law_exchanged => k_is)
    (case k_law_exchanged => k_is)
    (case a_law_strips_right => k_is)
    (case l_law_strips_right => k_is)
    (case c_law_strips_right => k_is)
    (case k_law_strips_right => k_is)
    (case a_law => k_is)
    (case l_law => k_is)
    (case c_law => k_is)
    (case k_law => k_is)
    (case m_HYPHEN => k_is)
    (case m_FILLER => k_is)
    (case m_COVER => k_is)
    (case m_BLANK => k_is)
    (case n_ValueError => k_is)
    (case n_bool => k_is)
    (case n_int => k_is)
    (case n_isinstance => k_is)
    (case n_len => k_is)
    (case n_list => k_is)
    (case n_max => k_is)
    (case n_min => k_is)
    (case n_range => k_is)
    (case n_reversed => k_is)
    (case n_sorted => k_is)
    (case n_str => k_is)
    (case n_tuple => k_is)
    (case n_zip => k_is)
    (case g_PagesError => k_is)
    (case ic_PagesError => k_is)
    (case ty_PagesError => k_is)
    (case g_RecordError => k_is)
    (case ic_RecordError => k_is)
    (case ty_RecordError => k_is)
    (case g_LimitError => k_is)
    (case ic_LimitError => k_is)
    (case ty_LimitError => k_is)
    (case g_GivenError => k_is)
    (case ic_GivenError => k_is)
    (case ty_GivenError => k_is)
    (case g_BadText => k_is)
    (case ic_BadText => k_is)
    (case ty_BadText => k_is)
    (case g_BadCall => k_is)
    (case ic_BadCall => k_is)
    (case ty_BadCall => k_is)
    (case g_Misplaced => k_is)
    (case ic_Misplaced => k_is)
    (case ty_Misplaced => k_is)
    (case g_Unknown => k_is)
    (case ic_Unknown => k_is)
    (case ty_Unknown => k_is)
    (case g_Twice => k_is)
    (case ic_Twice => k_is)
    (case ty_Twice => k_is)
    (case g_TooLong => k_is)
    (case ic_TooLong => k_is)
    (case ty_TooLong => k_is)
    (case g_TooLarge => k_is)
    (case ic_TooLarge => k_is)
    (case ty_TooLarge => k_is)
    (case g_TooMany => k_is)
    (case ic_TooMany => k_is)
    (case ty_TooMany => k_is)
    (case g_TooWide => k_is)
    (case ic_TooWide => k_is)
    (case ty_TooWide => k_is)
    (case g_TooTall => k_is)
    (case ic_TooTall => k_is)
    (case ty_TooTall => k_is)
    (case g_BadStyle => k_is)
    (case ic_BadStyle => k_is)
    (case ty_BadStyle => k_is)
    (case g_BadSecret => k_is)
    (case ic_BadSecret => k_is)
    (case ty_BadSecret => k_is)
    (case g_BadEnding => k_is)
    (case ic_BadEnding => k_is)
    (case ty_BadEnding => k_is)
    (case g_NoStem => k_is)
    (case ic_NoStem => k_is)
    (case ty_NoStem => k_is)
    (case g_Untrue => k_is)
    (case ic_Untrue => k_is)
    (case ty_Untrue => k_is)
    (case g_BadFile => k_is)
    (case ic_BadFile => k_is)
    (case ty_BadFile => k_is)
    (case g_BadStep => k_is)
    (case ic_BadStep => k_is)
    (case ty_BadStep => k_is)
    (case bx_PagesError => k_is)
    (case o_hn => k_is)
    (case o_ht => k_is)
    (case xL_TooWide => k_is)
    (case rv_TooWide => first | rfl | decide +kernel)
    (case sa_TooWide => k_is)
    (case ga_TooWide => k_is)
    (case gg_TooWide => k_is)
    (case ex_TooWide => k_is)
    (case kp_TooWide => k_is)
    (case hd_TooWide => k_is)
    (case ha_TooWide => k_is)
    (case hm_TooWide => k_is)
    (case vs_TooWide => k_is)
    (case no_TooWide_part => k_is)
    (case sb_TooWide_PagesError => k_is)
    (case sb_TooWide_RecordError => k_is)
    (case sb_TooWide_LimitError => k_is)
    (case sb_TooWide_GivenError => k_is)
    (case sb_TooWide_BadText => k_is)
    (case sb_TooWide_BadCall => k_is)
    (case sb_TooWide_Misplaced => k_is)
    (case sb_TooWide_Unknown => k_is)
    (case sb_TooWide_Twice => k_is)
    (case sb_TooWide_TooLong => k_is)
    (case sb_TooWide_TooLarge => k_is)
    (case sb_TooWide_TooMany => k_is)
    (case sb_TooWide_TooWide => k_is)
    (case sb_TooWide_TooTall => k_is)
    (case sb_TooWide_BadStyle => k_is)
    (case sb_TooWide_BadSecret => k_is)
    (case sb_TooWide_BadEnding => k_is)
    (case sb_TooWide_NoStem => k_is)
    (case sb_TooWide_Untrue => k_is)
    (case sb_TooWide_BadFile => k_is)
    (case sb_TooWide_BadStep => k_is)
    (case ii_TooWide => k_is)
    (case ti_TooWide => k_is)
    (case li_TooWide => k_is)
    (case ci_TooWide => k_is)
    (case ki_TooWide => k_is)
