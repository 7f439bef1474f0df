import PyProof.Rows.All
import Wide.All
import OpenK.AllK
import Wide.FinOn
import HandS.ForMost
import HandS.IsInst
import HandS.Conv
import HandS.Evl
import PyProof.StrBlock2
import HandS.ExcInit
import HandS.ExcIs
import HandS.ExcField
import HandS.Wide
import HandS.Defaults
import HandS.CallSlots
import HandS.TupSets
import HandS.DictTup
import HandS.More
import HandS.Walk
import HandS.DictComp
import KE.KDictDisplayH
import HandS.TupAny
import KE.GoesEnum
import HandS.Comp
import HandS.SetBool
import HandS.Strs
import HandS.Deep
import HandS.StrMore
import HandS.Lambda
import HandS.ForExc
import HandS.HotCalls
import HandS.WordsExc
import HandS.ExcCtx
import HandS.Style
import KE.DataCmp
import KE.SortData
import KE.GoesEnumKw
import OpenK.KMore
import HandS.Call
import KE.GoesMore
import HandS.Replace
import HandS.MakeKw
import HandS.EndTab
import HandS.HeadHook4
import PySem.Challenge.RW_hushedpages_k25_whole_rows_hold
set_option Elab.async false
set_option linter.all false
set_option maxRecDepth 100000
set_option maxHeartbeats 4000000
namespace Vf
open PySem PySem.Spec PyProof.Rows L2
def topS (i : Nat) : Stmt := PySem.Challenge.pw_hushedpages_k25_whole_rows_hold.main.body.getD i (.Pass ⟨0, 0, 0, 0⟩)
abbrev s_least_way_along : Stmt := topS 5
theorem sc_least_way_along : FnScope ["places", "leads", "bounds", "tails", "way"] ["places", "leads"] (defScope s_least_way_along) := ⟨rfl, rfl, rfl, by decide +kernel, rfl, by decide +kernel, by decide +kernel⟩
abbrev s_bounds_and_tails : Stmt := topS 6
theorem sc_bounds_and_tails : FnScope ["places", "leads", "bounds", "tails", "tail", "head", "cost", "total"] ["places", "leads"] (defScope s_bounds_and_tails) := ⟨rfl, rfl, rfl, by decide +kernel, rfl, by decide +kernel, by decide +kernel⟩
abbrev s_width_of : Stmt := topS 8
theorem sc_width_of : FnScope ["style", "sign"] ["style", "sign"] (defScope s_width_of) := ⟨rfl, rfl, rfl, by decide +kernel, rfl, by decide +kernel, by decide +kernel⟩
abbrev s_cut_of : Stmt := topS 9
theorem sc_cut_of : FnScope ["style", "sign", "next_sign"] ["style", "sign", "next_sign"] (defScope s_cut_of) := ⟨rfl, rfl, rfl, by decide +kernel, rfl, by decide +kernel, by decide +kernel⟩
abbrev s_break_price : Stmt := topS 10
theorem sc_break_price : FnScope ["style", "sign", "next_sign"] ["style", "sign", "next_sign"] (defScope s_break_price) := ⟨rfl, rfl, rfl, by decide +kernel, rfl, by decide +kernel, by decide +kernel⟩
abbrev s_told : Stmt := topS 11
theorem sc_told : FnScope ["rows", "key", "otherwise", "low", "high", "middle"] ["rows", "key", "otherwise"] (defScope s_told) := ⟨rfl, rfl, rfl, by decide +kernel, rfl, by decide +kernel, by decide +kernel⟩
abbrev s_signs_of : Stmt := topS 15
theorem sc_signs_of : FnScope ["style", "word", "first", "behind", "signs", "at"] ["style", "word", "first", "behind"] (defScope s_signs_of) := ⟨rfl, rfl, rfl, by decide +kernel, rfl, by decide +kernel, by decide +kernel⟩
abbrev s_signs_between : Stmt := topS 16
theorem sc_signs_between : FnScope ["style", "word", "first", "last", "places"] ["style", "word", "first", "last"] (defScope s_signs_between) := ⟨rfl, rfl, rfl, by decide +kernel, rfl, by decide +kernel, by decide +kernel⟩
abbrev s_shape_of : Stmt := topS 17
theorem sc_shape_of : FnScope ["style", "word", "partings", "at", "left", "right"] ["style", "word"] (defScope s_shape_of) := ⟨rfl, rfl, rfl, by decide +kernel, rfl, by decide +kernel, by decide +kernel⟩
abbrev s_parting_places : Stmt := topS 18
theorem sc_parting_places : FnScope ["style", "word", "at"] ["style", "word"] (defScope s_parting_places) := ⟨rfl, rfl, rfl, by decide +kernel, rfl, by decide +kernel, by decide +kernel⟩
abbrev s_piece_width : Stmt := topS 19
theorem sc_piece_width : FnScope ["shape", "first", "last", "width", "partings"] ["shape", "first", "last"] (defScope s_piece_width) := ⟨rfl, rfl, rfl, by decide +kernel, rfl, by decide +kernel, by decide +kernel⟩
abbrev s_u_piece_width : Stmt := topS 20
theorem sc_u_piece_width : FnScope ["style", "word", "first", "behind", "width", "at"] ["style", "word", "first", "behind"] (defScope s_u_piece_width) := ⟨rfl, rfl, rfl, by decide +kernel, rfl, by decide +kernel, by decide +kernel⟩
abbrev s_width_at : Stmt := topS 21
theorem sc_width_at : FnScope ["style", "word", "at", "behind"] ["style", "word", "at", "behind"] (defScope s_width_at) := ⟨rfl, rfl, rfl, by decide +kernel, rfl, by decide +kernel, by decide +kernel⟩
abbrev s_positions : Stmt := topS 23
theorem sc_positions : FnScope ["shapes", "found", "at", "_", "partings", "parting"] ["shapes"] (defScope s_positions) := ⟨rfl, rfl, rfl, by decide +kernel, rfl, by decide +kernel, by decide +kernel⟩
abbrev s_least_lines : Stmt := topS 24
theorem sc_least_lines : FnScope ["measure", "ladder", "shapes", "least", "begin"] ["measure", "ladder", "shapes"] (defScope s_least_lines) := ⟨rfl, rfl, rfl, by decide +kernel, rfl, by decide +kernel, by decide +kernel⟩
abbrev s_lines_from : Stmt := topS 25
theorem sc_lines_from : FnScope ["measure", "ladder", "shapes", "begin", "ends", "end", "width"] ["measure", "ladder", "shapes", "begin"] (defScope s_lines_from) := ⟨rfl, rfl, rfl, by decide +kernel, rfl, by decide +kernel, by decide +kernel⟩
abbrev s_ends_from : Stmt := topS 26
theorem sc_ends_from : FnScope ["measure", "shapes", "begin", "first", "parting", "found", "ahead", "at", "last", "width"] ["measure", "shapes", "begin"] (defScope s_ends_from) := ⟨rfl, rfl, rfl, by decide +kernel, rfl, by decide +kernel, by decide +kernel⟩
abbrev s_cost : Stmt := topS 27
theorem sc_cost : FnScope ["measure", "ladder", "shapes", "begin", "end", "width", "cost", "at", "parting"] ["measure", "ladder", "shapes", "begin", "end", "width"] (defScope s_cost) := ⟨rfl, rfl, rfl, by decide +kernel, rfl, by decide +kernel, by decide +kernel⟩
abbrev s_piece_strip : Stmt := topS 31
theorem sc_piece_strip : FnScope ["style", "word", "struck", "first", "last", "signs"] ["style", "word", "struck", "first", "last"] (defScope s_piece_strip) := ⟨rfl, rfl, rfl, by decide +kernel, rfl, by decide +kernel, by decide +kernel⟩
abbrev s_plain_strip : Stmt := topS 32
theorem sc_plain_strip : FnScope ["signs"] ["signs"] (defScope s_plain_strip) := ⟨rfl, rfl, rfl, by decide +kernel, rfl, by decide +kernel, by decide +kernel⟩
abbrev s_blank_strip : Stmt := topS 33
theorem sc_blank_strip : FnScope ["width"] ["width"] (defScope s_blank_strip) := ⟨rfl, rfl, rfl, by decide +kernel, rfl, by decide +kernel, by decide +kernel⟩
abbrev s_joined : Stmt := topS 34
theorem sc_joined : FnScope ["strips", "traces", "left", "signs", "_", "trace", "at", "width", "struck", "first", "last", "strip"] ["strips"] (defScope s_joined) := ⟨rfl, rfl, rfl, by decide +kernel, rfl, by decide +kernel, by decide +kernel⟩
abbrev s_placed : Stmt := topS 35
theorem sc_placed : FnScope ["strip", "left", "width"] ["strip", "left", "width"] (defScope s_placed) := ⟨rfl, rfl, rfl, by decide +kernel, rfl, by decide +kernel, by decide +kernel⟩
abbrev s_bare : Stmt := topS 36
theorem sc_bare : FnScope ["strips", "strip"] ["strips"] (defScope s_bare) := ⟨rfl, rfl, rfl, by decide +kernel, rfl, by decide +kernel, by decide +kernel⟩
abbrev s_set_words : Stmt := topS 38
theorem sc_set_words : FnScope ["style", "measure", "words", "ragged"] ["style", "measure", "words", "ragged"] (defScope s_set_words) := ⟨rfl, rfl, rfl, by decide +kernel, rfl, by decide +kernel, by decide +kernel⟩
abbrev s_set_lines : Stmt := topS 39
theorem sc_set_lines : FnScope ["style", "measure", "words", "ragged", "lines", "strips", "begin", "end", "pieces", "loose", "word", "_"] ["style", "measure", "words", "ragged"] (defScope s_set_lines) := ⟨rfl, rfl, rfl, by decide +kernel, rfl, by decide +kernel, by decide +kernel⟩
abbrev s_pieces_of_line : Stmt := topS 40
theorem sc_pieces_of_line : FnScope ["style", "words", "begin", "end", "pieces", "at", "word", "struck", "first", "last"] ["style", "words", "begin", "end"] (defScope s_pieces_of_line) := ⟨rfl, rfl, rfl, by decide +kernel, rfl, by decide +kernel, by decide +kernel⟩
abbrev s_line_strip : Stmt := topS 41
theorem sc_line_strip : FnScope ["pieces", "measure", "loose", "gaps", "rest", "row", "at", "piece"] ["pieces", "measure", "loose"] (defScope s_line_strip) := ⟨rfl, rfl, rfl, by decide +kernel, rfl, by decide +kernel, by decide +kernel⟩
abbrev s_law_begin : Stmt := topS 43
theorem sc_law_begin : FnScope ["_law_script"] ["_law_script"] (defScope s_law_begin) := ⟨rfl, rfl, rfl, by decide +kernel, rfl, by decide +kernel, by decide +kernel⟩
abbrev s_law_draw : Stmt := topS 44
theorem sc_law_draw : FnScope ["_law_d", "_law_many", "_law_cell", "_law_found"] ["_law_d", "_law_many"] (defScope s_law_draw) := ⟨rfl, rfl, rfl, by decide +kernel, rfl, by decide +kernel, by decide +kernel⟩
abbrev s_law_pick : Stmt := topS 45
theorem sc_law_pick : FnScope ["_law_d", "_law_row"] ["_law_d", "_law_row"] (defScope s_law_pick) := ⟨rfl, rfl, rfl, by decide +kernel, rfl, by decide +kernel, by decide +kernel⟩
abbrev s_law_rare : Stmt := topS 46
theorem sc_law_rare : FnScope ["_law_d", "_law_many"] ["_law_d", "_law_many"] (defScope s_law_rare) := ⟨rfl, rfl, rfl, by decide +kernel, rfl, by decide +kernel, by decide +kernel⟩
abbrev s_law_piece : Stmt := topS 47
theorem sc_law_piece : FnScope ["_law_style", "_law_word", "_law_first", "_law_behind", "_law_signs", "_law_k", "_law_wide", "_law_one", "_law_w", "_law_two", "_law_cut"] ["_law_style", "_law_word", "_law_first", "_law_behind"] (defScope s_law_piece) := ⟨rfl, rfl, rfl, by decide +kernel, rfl, by decide +kernel, by decide +kernel⟩
abbrev s_law_places : Stmt := topS 48
theorem sc_law_places : FnScope ["_law_style", "_law_word", "_law_found", "_law_k", "_law_one", "_law_two", "_law_price"] ["_law_style", "_law_word"] (defScope s_law_places) := ⟨rfl, rfl, rfl, by decide +kernel, rfl, by decide +kernel, by decide +kernel⟩
abbrev s_law_shape : Stmt := topS 49
theorem sc_law_shape : FnScope ["_law_style", "_law_word", "_law_partings", "_law_k", "_law_price", "_law_left"] ["_law_style", "_law_word"] (defScope s_law_shape) := ⟨rfl, rfl, rfl, by decide +kernel, rfl, by decide +kernel, by decide +kernel⟩
abbrev s_law_piece_width : Stmt := topS 50
theorem sc_law_piece_width : FnScope ["_law_shape_here", "_law_first", "_law_last", "_law_left"] ["_law_shape_here", "_law_first", "_law_last"] (defScope s_law_piece_width) := ⟨rfl, rfl, rfl, by decide +kernel, rfl, by decide +kernel, by decide +kernel⟩
abbrev s_law_natural : Stmt := topS 51
theorem sc_law_natural : FnScope ["_law_shapes", "_law_start", "_law_end", "_law_i", "_law_k", "_law_j", "_law_m", "_law_total_here", "_law_word"] ["_law_shapes", "_law_start", "_law_end"] (defScope s_law_natural) := ⟨rfl, rfl, rfl, by decide +kernel, rfl, by decide +kernel, by decide +kernel⟩
abbrev s_law_positions : Stmt := topS 52
theorem sc_law_positions : FnScope ["_law_shapes", "_law_found", "_law_i", "_law_k"] ["_law_shapes"] (defScope s_law_positions) := ⟨rfl, rfl, rfl, by decide +kernel, rfl, by decide +kernel, by decide +kernel⟩
abbrev s_law_line_cost : Stmt := topS 53
theorem sc_law_line_cost : FnScope ["_law_measure_here", "_law_ladder", "_law_shapes", "_law_start", "_law_end", "_law_natural_here", "_law_cost"] ["_law_measure_here", "_law_ladder", "_law_shapes", "_law_start", "_law_end"] (defScope s_law_line_cost) := ⟨rfl, rfl, rfl, by decide +kernel, rfl, by decide +kernel, by decide +kernel⟩
abbrev s_law_lines : Stmt := topS 54
theorem sc_law_lines : FnScope ["_law_measure_here", "_law_ladder", "_law_shapes", "_law_places_here", "_law_best", "_law_a", "_law_b", "_law_cost", "_law_new", "_law_way"] ["_law_measure_here", "_law_ladder", "_law_shapes"] (defScope s_law_lines) := ⟨rfl, rfl, rfl, by decide +kernel, rfl, by decide +kernel, by decide +kernel⟩
abbrev s_law_drawn_words : Stmt := topS 55
theorem sc_law_drawn_words : FnScope ["_law_d", "_law_signs", "_law_kind", "_law_many", "_law_longest", "_law_words", "_law_k", "_law_long", "_law_n"] ["_law_d"] (defScope s_law_drawn_words) := ⟨rfl, rfl, rfl, by decide +kernel, rfl, by decide +kernel, by decide +kernel⟩
abbrev s_law_style_for : Stmt := topS 56
theorem sc_law_style_for : FnScope ["_law_d", "_law_words", "_law_steep", "_law_wide", "_law_sign", "_law_cuts", "_law_breaks", "_law_dear", "_law_word", "_law_k", "_law_pair", "_law_widths", "_law_cut_rows", "_law_break_rows", "_law_prices"] ["_law_d", "_law_words"] (defScope s_law_style_for) := ⟨rfl, rfl, rfl, by decide +kernel, rfl, by decide +kernel, by decide +kernel⟩
abbrev s_law_measure : Stmt := topS 57
theorem sc_law_measure : FnScope ["_law_d", "_law_shapes", "_law_widest", "_law_total_here", "_law_places_here", "_law_first", "_law_behind", "_law_line", "_law_more", "_law_menu", "_law_shape_here"] ["_law_d", "_law_shapes"] (defScope s_law_measure) := ⟨rfl, rfl, rfl, by decide +kernel, rfl, by decide +kernel, by decide +kernel⟩
abbrev s_law_asked : Stmt := topS 58
theorem sc_law_asked : FnScope ["_law_style", "_law_measure_here", "_law_words", "_law_close", "e"] ["_law_style", "_law_measure_here", "_law_words", "_law_close"] (defScope s_law_asked) := ⟨rfl, rfl, rfl, by decide +kernel, rfl, by decide +kernel, by decide +kernel⟩
abbrev s_law_runs : Stmt := topS 59
theorem sc_law_runs : FnScope ["_law_signs", "_law_found", "_law_x"] ["_law_signs"] (defScope s_law_runs) := ⟨rfl, rfl, rfl, by decide +kernel, rfl, by decide +kernel, by decide +kernel⟩
abbrev s_law_piece_end : Stmt := topS 60
theorem sc_law_piece_end : FnScope ["_law_style", "_law_word", "_law_place", "_law_part", "_law_end", "_law_price"] ["_law_style", "_law_word", "_law_place", "_law_part"] (defScope s_law_piece_end) := ⟨rfl, rfl, rfl, by decide +kernel, rfl, by decide +kernel, by decide +kernel⟩
abbrev s_law_line_read : Stmt := topS 61
theorem sc_law_line_read : FnScope ["_law_style", "_law_words", "_law_start", "_law_strip", "_law_i", "_law_place", "_law_cover", "_law_gaps", "_law_behind", "_law_runs_here", "_law_n", "_law_x", "_law_part", "_law_end"] ["_law_style", "_law_words", "_law_start", "_law_strip"] (defScope s_law_line_read) := ⟨rfl, rfl, rfl, by decide +kernel, rfl, by decide +kernel, by decide +kernel⟩
abbrev s_law_gaps_hold : Stmt := topS 62
theorem sc_law_gaps_hold : FnScope ["_law_measure_here", "_law_gaps", "_law_behind", "_law_close", "_law_extra", "_law_done", "_law_j", "_law_gap"] ["_law_measure_here", "_law_gaps", "_law_behind", "_law_close"] (defScope s_law_gaps_hold) := ⟨rfl, rfl, rfl, by decide +kernel, rfl, by decide +kernel, by decide +kernel⟩
abbrev s_law_position : Stmt := topS 63
theorem sc_law_position : FnScope ["_law_style", "_law_words", "_law_at", "_law_places_here", "_law_place", "_law_price"] ["_law_style", "_law_words", "_law_at"] (defScope s_law_position) := ⟨rfl, rfl, rfl, by decide +kernel, rfl, by decide +kernel, by decide +kernel⟩
abbrev s_law_way_told : Stmt := topS 64
theorem sc_law_way_told : FnScope ["_law_style", "_law_measure_here", "_law_words", "_law_close", "_law_strips", "_law_at", "_law_way", "_law_k", "_law_strip", "_law_read"] ["_law_style", "_law_measure_here", "_law_words", "_law_close", "_law_strips"] (defScope s_law_way_told) := ⟨rfl, rfl, rfl, by decide +kernel, rfl, by decide +kernel, by decide +kernel⟩
abbrev s_law_total : Stmt := topS 65
theorem sc_law_total : FnScope ["_law_measure_here", "_law_ladder", "_law_shapes", "_law_way", "_law_total_here", "_law_k", "_law_cost"] ["_law_measure_here", "_law_ladder", "_law_shapes", "_law_way"] (defScope s_law_total) := ⟨rfl, rfl, rfl, by decide +kernel, rfl, by decide +kernel, by decide +kernel⟩
abbrev s_law_holds : Stmt := topS 66
theorem sc_law_holds : FnScope ["_law_style", "_law_measure_here", "_law_words", "_law_shapes", "_law_least", "_law_loose", "_law_tight", "_law_way", "_law_word", "_law_kind"] ["_law_style", "_law_measure_here", "_law_words"] (defScope s_law_holds) := ⟨rfl, rfl, rfl, by decide +kernel, rfl, by decide +kernel, by decide +kernel⟩
abbrev s_law : Stmt := topS 67
theorem sc_law : FnScope ["_law_script", "_law_d", "_law_names", "_law_style", "_law_measure_here", "_law_share", "_law_words", "_law_room", "_law_word"] ["_law_script"] (defScope s_law) := ⟨rfl, rfl, rfl, by decide +kernel, rfl, by decide +kernel, by decide +kernel⟩
abbrev s_TooWide_init : Stmt := inClass (topS 3) 0
theorem sc_TooWide_init : FnScope ["self", "part"] ["self", "part"] (defScope s_TooWide_init) := ⟨rfl, rfl, rfl, by decide +kernel, rfl, by decide +kernel, by decide +kernel⟩
/-- a class of the text -/
structure ClsAt (K : PySem.W.Frag) (mg : Str → Option Value) (x : Str) (C : Addr) : Prop where
  G : mg x = some (.ref C)
  ic : PySem.W.isClsIn K C = true
  ty : PySem.W.typeIn K (.ref C) = some (.type "type")
/-- an own error's class with its __init__ -/
structure ErrAt (K : PySem.W.Frag) (mg : Str → Option Value) (x qi : Str) (C fI : Addr) (fd : FuncData) (st : Stmt) (ps fs : List Str) : Prop where
  G : mg x = some (.ref C)
  O : OexC K C
  EC : ExcC K C
  XC : XfC K C
  I : PySem.W.findIn K (.ref C) "__init__" = some (some (.ref fI))
  TI : PySem.W.typeIn K (.ref fI) = some (.type "function")
  F : Fun K "__init__" qi st fI fd
  B : Binds K fd ps []
  no : ∀ f ∈ fs, PySem.W.findIn K (.ref C) f = some none
section
variable {K : PySem.W.Frag} {D C : Addr} {b : Bool}
theorem kitCls_ref (ic : PySem.W.isClsIn K C = true) (ty : PySem.W.typeIn K (.ref C) = some (.type "type")) (sb : PySem.W.subIn K (.ref D) (.ref C) = some b) : PySem.W.kitCls K (.ref D) (.ref C) = some b := by
  have h : ((PySem.W.clsIn K C).isSome && PySem.W.typeIn K (.ref C) == some (.type "type")) = true := by
    have ic2 : (PySem.W.clsIn K C).isSome = true := ic
    rw [ic2, ty] <;> rfl
  show (if ((PySem.W.clsIn K C).isSome && PySem.W.typeIn K (.ref C) == some (.type "type")) = true then PySem.W.subIn K (.ref D) (.ref C) else none) = some b
  rw [if_pos h]; exact sb
theorem kit_ref (dd : PySem.W.subIn K (.ref D) (.ref D) = some true) (ic : PySem.W.isClsIn K C = true) (ty : PySem.W.typeIn K (.ref C) = some (.type "type")) (sb : PySem.W.subIn K (.ref D) (.ref C) = some b) : PySem.W.kitOne K (.ref D) (.ref C) = some b := by
  unfold PySem.W.kitOne
  by_cases h : (Value.ref D == Value.ref C) = true
  · rw [if_pos h]
    have e : Value.ref D = Value.ref C := beq_iff_eq.mp h
    rw [← e, dd] at sb
    exact sb
  · rw [if_neg h]; exact kitCls_ref ic ty sb
theorem kit_typ (sb : PySem.W.subIn K (.ref D) (.type "ValueError") = some true) : PySem.W.kitOne K (.ref D) (.type "ValueError") = some true := by
  have h : (Value.ref D == Value.type "ValueError") = false := beq_eq_false_iff_ne.mpr (fun e => by cases e)
  unfold PySem.W.kitOne
  rw [h, if_neg Bool.false_ne_true]
  show (if PySem.W.kitMeta "ValueError" = true then PySem.W.subIn K (.ref D) (.type "ValueError") else none) = some true
  rw [if_pos (by decide +kernel)]; exact sb
theorem exm_ref (bx : PySem.W.subIn K (.ref C) (.type "BaseException") = some true) (ic : PySem.W.isClsIn K C = true) (ty : PySem.W.typeIn K (.ref C) = some (.type "type")) (sb : PySem.W.subIn K (.ref D) (.ref C) = some b) : PySem.W.exmOne K (.ref D) (.ref C) = some b := by
  have h : (PySem.W.subIn K (.ref C) (.type "BaseException") == some true) = true := by rw [bx] <;> rfl
  show (if (PySem.W.subIn K (.ref C) (.type "BaseException") == some true) = true then PySem.W.kitCls K (.ref D) (.ref C) else none) = some b
  rw [if_pos h]; exact kitCls_ref ic ty sb
end
structure DefD (K : PySem.W.Frag) (mg : Str → Option Value) (x : Str) (st : Stmt) (ps : List Str) (dvs : List V) (f : Addr) (fd : FuncData) : Prop where
  F : L2.FunD K x x (defArgs st) (defBody st) (defScope st) dvs [] f fd
  G : mg x = some (.ref f)
  B : Binds K fd ps []
  B1 : ∃ ds, Vals dvs ds ∧ Binds K fd ps ds
structure DefAt (K : PySem.W.Frag) (mg : Str → Option Value) (x : Str) (st : Stmt) (ps : List Str) (f : Addr) (fd : FuncData) : Prop where
  F : Fun K x x st f fd
  G : mg x = some (.ref f)
  B : Binds K fd ps []
  E : ∃ kV doc pm an cdv ct, fd = PySem.W.fnOf x x (defArgs st) (defBody st) (defScope st) .none kV doc pm an cdv ct
structure Txt (K : PySem.W.Frag) (mg : Str → Option Value) where
  a_least_way_along : Addr
  d_least_way_along : FuncData
  D_least_way_along : DefAt K mg "least_way_along" s_least_way_along ["places", "leads"] a_least_way_along d_least_way_along
  a_bounds_and_tails : Addr
  d_bounds_and_tails : FuncData
  D_bounds_and_tails : DefAt K mg "_bounds_and_tails" s_bounds_and_tails ["places", "leads"] a_bounds_and_tails d_bounds_and_tails
  a_width_of : Addr
  d_width_of : FuncData
  D_width_of : DefAt K mg "width_of" s_width_of ["style", "sign"] a_width_of d_width_of
  a_cut_of : Addr
  d_cut_of : FuncData
  D_cut_of : DefAt K mg "cut_of" s_cut_of ["style", "sign", "next_sign"] a_cut_of d_cut_of
  a_break_price : Addr
  d_break_price : FuncData
  D_break_price : DefAt K mg "break_price" s_break_price ["style", "sign", "next_sign"] a_break_price d_break_price
  a_told : Addr
  d_told : FuncData
  D_told : DefAt K mg "_told" s_told ["rows", "key", "otherwise"] a_told d_told
  a_signs_of : Addr
  d_signs_of : FuncData
  D_signs_of : DefAt K mg "signs_of" s_signs_of ["style", "word", "first", "behind"] a_signs_of d_signs_of
  a_signs_between : Addr
  d_signs_between : FuncData
  D_signs_between : DefAt K mg "signs_between" s_signs_between ["style", "word", "first", "last"] a_signs_between d_signs_between
  a_shape_of : Addr
  d_shape_of : FuncData
  D_shape_of : DefAt K mg "shape_of" s_shape_of ["style", "word"] a_shape_of d_shape_of
  a_parting_places : Addr
  d_parting_places : FuncData
  D_parting_places : DefAt K mg "parting_places" s_parting_places ["style", "word"] a_parting_places d_parting_places
  a_piece_width : Addr
  d_piece_width : FuncData
  D_piece_width : DefAt K mg "piece_width" s_piece_width ["shape", "first", "last"] a_piece_width d_piece_width
  a_u_piece_width : Addr
  d_u_piece_width : FuncData
  D_u_piece_width : DefAt K mg "_piece_width" s_u_piece_width ["style", "word", "first", "behind"] a_u_piece_width d_u_piece_width
  a_width_at : Addr
  d_width_at : FuncData
  D_width_at : DefAt K mg "_width_at" s_width_at ["style", "word", "at", "behind"] a_width_at d_width_at
  a_positions : Addr
  d_positions : FuncData
  D_positions : DefAt K mg "positions" s_positions ["shapes"] a_positions d_positions
  a_least_lines : Addr
  d_least_lines : FuncData
  D_least_lines : DefAt K mg "least_lines" s_least_lines ["measure", "ladder", "shapes"] a_least_lines d_least_lines
  a_lines_from : Addr
  d_lines_from : FuncData
  D_lines_from : DefAt K mg "_lines_from" s_lines_from ["measure", "ladder", "shapes", "begin"] a_lines_from d_lines_from
  a_ends_from : Addr
  d_ends_from : FuncData
  D_ends_from : DefAt K mg "_ends_from" s_ends_from ["measure", "shapes", "begin"] a_ends_from d_ends_from
  a_cost : Addr
  d_cost : FuncData
  D_cost : DefAt K mg "_cost" s_cost ["measure", "ladder", "shapes", "begin", "end", "width"] a_cost d_cost
  a_piece_strip : Addr
  d_piece_strip : FuncData
  D_piece_strip : DefAt K mg "piece_strip" s_piece_strip ["style", "word", "struck", "first", "last"] a_piece_strip d_piece_strip
  a_plain_strip : Addr
  d_plain_strip : FuncData
  D_plain_strip : DefAt K mg "plain_strip" s_plain_strip ["signs"] a_plain_strip d_plain_strip
  a_blank_strip : Addr
  d_blank_strip : FuncData
  D_blank_strip : DefAt K mg "blank_strip" s_blank_strip ["width"] a_blank_strip d_blank_strip
  a_joined : Addr
  d_joined : FuncData
  D_joined : DefAt K mg "joined" s_joined ["strips"] a_joined d_joined
  a_placed : Addr
  d_placed : FuncData
  D_placed : DefAt K mg "placed" s_placed ["strip", "left", "width"] a_placed d_placed
  a_bare : Addr
  d_bare : FuncData
  D_bare : DefAt K mg "bare" s_bare ["strips"] a_bare d_bare
  a_set_words : Addr
  d_set_words : FuncData
  D_set_words : DefD K mg "set_words" s_set_words ["style", "measure", "words", "ragged"] [V.bl false] a_set_words d_set_words
  a_set_lines : Addr
  d_set_lines : FuncData
  D_set_lines : DefAt K mg "set_lines" s_set_lines ["style", "measure", "words", "ragged"] a_set_lines d_set_lines
  a_pieces_of_line : Addr
  d_pieces_of_line : FuncData
  D_pieces_of_line : DefAt K mg "_pieces_of_line" s_pieces_of_line ["style", "words", "begin", "end"] a_pieces_of_line d_pieces_of_line
  a_line_strip : Addr
  d_line_strip : FuncData
  D_line_strip : DefAt K mg "_line_strip" s_line_strip ["pieces", "measure", "loose"] a_line_strip d_line_strip
  a_law_begin : Addr
  d_law_begin : FuncData
  D_law_begin : DefAt K mg "_law_begin" s_law_begin ["_law_script"] a_law_begin d_law_begin
  a_law_draw : Addr
  d_law_draw : FuncData
  D_law_draw : DefAt K mg "_law_draw" s_law_draw ["_law_d", "_law_many"] a_law_draw d_law_draw
  a_law_pick : Addr
  d_law_pick : FuncData
  D_law_pick : DefAt K mg "_law_pick" s_law_pick ["_law_d", "_law_row"] a_law_pick d_law_pick
  a_law_rare : Addr
  d_law_rare : FuncData
  D_law_rare : DefAt K mg "_law_rare" s_law_rare ["_law_d", "_law_many"] a_law_rare d_law_rare
  a_law_piece : Addr
  d_law_piece : FuncData
  D_law_piece : DefAt K mg "_law_piece" s_law_piece ["_law_style", "_law_word", "_law_first", "_law_behind"] a_law_piece d_law_piece
  a_law_places : Addr
  d_law_places : FuncData
  D_law_places : DefAt K mg "_law_places" s_law_places ["_law_style", "_law_word"] a_law_places d_law_places
  a_law_shape : Addr
  d_law_shape : FuncData
  D_law_shape : DefAt K mg "_law_shape" s_law_shape ["_law_style", "_law_word"] a_law_shape d_law_shape
  a_law_piece_width : Addr
  d_law_piece_width : FuncData
  D_law_piece_width : DefAt K mg "_law_piece_width" s_law_piece_width ["_law_shape_here", "_law_first", "_law_last"] a_law_piece_width d_law_piece_width
  a_law_natural : Addr
  d_law_natural : FuncData
  D_law_natural : DefAt K mg "_law_natural" s_law_natural ["_law_shapes", "_law_start", "_law_end"] a_law_natural d_law_natural
  a_law_positions : Addr
  d_law_positions : FuncData
  D_law_positions : DefAt K mg "_law_positions" s_law_positions ["_law_shapes"] a_law_positions d_law_positions
  a_law_line_cost : Addr
  d_law_line_cost : FuncData
  D_law_line_cost : DefAt K mg "_law_line_cost" s_law_line_cost ["_law_measure_here", "_law_ladder", "_law_shapes", "_law_start", "_law_end"] a_law_line_cost d_law_line_cost
  a_law_lines : Addr
  d_law_lines : FuncData
  D_law_lines : DefAt K mg "_law_lines" s_law_lines ["_law_measure_here", "_law_ladder", "_law_shapes"] a_law_lines d_law_lines
  a_law_drawn_words : Addr
  d_law_drawn_words : FuncData
  D_law_drawn_words : DefAt K mg "_law_drawn_words" s_law_drawn_words ["_law_d"] a_law_drawn_words d_law_drawn_words
  a_law_style_for : Addr
  d_law_style_for : FuncData
  D_law_style_for : DefAt K mg "_law_style_for" s_law_style_for ["_law_d", "_law_words"] a_law_style_for d_law_style_for
  a_law_measure : Addr
  d_law_measure : FuncData
  D_law_measure : DefAt K mg "_law_measure" s_law_measure ["_law_d", "_law_shapes"] a_law_measure d_law_measure
  a_law_asked : Addr
  d_law_asked : FuncData
  D_law_asked : DefAt K mg "_law_asked" s_law_asked ["_law_style", "_law_measure_here", "_law_words", "_law_close"] a_law_asked d_law_asked
  a_law_runs : Addr
  d_law_runs : FuncData
  D_law_runs : DefAt K mg "_law_runs" s_law_runs ["_law_signs"] a_law_runs d_law_runs
  a_law_piece_end : Addr
  d_law_piece_end : FuncData
  D_law_piece_end : DefAt K mg "_law_piece_end" s_law_piece_end ["_law_style", "_law_word", "_law_place", "_law_part"] a_law_piece_end d_law_piece_end
  a_law_line_read : Addr
  d_law_line_read : FuncData
  D_law_line_read : DefAt K mg "_law_line_read" s_law_line_read ["_law_style", "_law_words", "_law_start", "_law_strip"] a_law_line_read d_law_line_read
  a_law_gaps_hold : Addr
  d_law_gaps_hold : FuncData
  D_law_gaps_hold : DefAt K mg "_law_gaps_hold" s_law_gaps_hold ["_law_measure_here", "_law_gaps", "_law_behind", "_law_close"] a_law_gaps_hold d_law_gaps_hold
  a_law_position : Addr
  d_law_position : FuncData
  D_law_position : DefAt K mg "_law_position" s_law_position ["_law_style", "_law_words", "_law_at"] a_law_position d_law_position
  a_law_way_told : Addr
  d_law_way_told : FuncData
  D_law_way_told : DefAt K mg "_law_way_told" s_law_way_told ["_law_style", "_law_measure_here", "_law_words", "_law_close", "_law_strips"] a_law_way_told d_law_way_told
  a_law_total : Addr
  d_law_total : FuncData
  D_law_total : DefAt K mg "_law_total" s_law_total ["_law_measure_here", "_law_ladder", "_law_shapes", "_law_way"] a_law_total d_law_total
  a_law_holds : Addr
  d_law_holds : FuncData
  D_law_holds : DefAt K mg "_law_holds" s_law_holds ["_law_style", "_law_measure_here", "_law_words"] a_law_holds d_law_holds
  a_law : Addr
  d_law : FuncData
  D_law : DefAt K mg "law" s_law ["_law_script"] a_law d_law
  t_HYPHEN : Tok
  m_HYPHEN : mg "HYPHEN" = some (.str "-" t_HYPHEN)
  t_FILLER : Tok
  m_FILLER : mg "FILLER" = some (.str "_" t_FILLER)
  t_COVER : Tok
  m_COVER : mg "COVER" = some (.str "#" t_COVER)
  t_BLANK : Tok
  m_BLANK : mg "BLANK" = some (.str " " t_BLANK)
  n_all : mg "all" = none
  n_enumerate : mg "enumerate" = none
  n_int : mg "int" = none
  n_isinstance : mg "isinstance" = none
  n_len : mg "len" = none
  n_list : mg "list" = none
  n_max : mg "max" = none
  n_min : mg "min" = none
  n_range : mg "range" = none
  n_sorted : mg "sorted" = none
  n_str : mg "str" = none
  n_sum : mg "sum" = none
  n_tuple : mg "tuple" = none
  n_zip : mg "zip" = none
  c_PagesError : Addr
  C_PagesError : ClsAt K mg "PagesError" c_PagesError
  c_LimitError : Addr
  C_LimitError : ClsAt K mg "LimitError" c_LimitError
  c_TooWide : Addr
  C_TooWide : ClsAt K mg "TooWide" c_TooWide
  i_TooWide : Addr
  d_TooWide : FuncData
  E_TooWide : ErrAt K mg "TooWide" "TooWide.__init__" c_TooWide i_TooWide d_TooWide s_TooWide_init ["self", "part"] ["part"]
  k_TooWide_PagesError : PySem.W.kitOne K (.ref c_TooWide) (.ref c_PagesError) = some true
  k_TooWide_LimitError : PySem.W.kitOne K (.ref c_TooWide) (.ref c_LimitError) = some true
  k_TooWide_TooWide : PySem.W.kitOne K (.ref c_TooWide) (.ref c_TooWide) = some true
  v_TooWide : PySem.W.kitOne K (.ref c_TooWide) (.type "ValueError") = some true
  x_TooWide : PySem.W.exmOne K (.ref c_TooWide) (.ref c_PagesError) = some true
  y_TooWide : PySem.W.exmOne K (.ref c_TooWide) (.ref c_TooWide) = some true
/-! ### the dice -/
/-- at d the dice, at l the script's copy -/
structure DI (d l : Addr) (H : Hp) : Prop where
  ne : l ≠ d
  sc : ∃ ns : List Int, H l = some (.lst (ns.map V.int))
  st : ∃ i b s c : Int, 0 ≤ i ∧ H d = some (.lst [.ref l, .int i, .int b, .int s, .int c])
/-- all but the dice stands -/
def Kp (d : Addr) (H H' : Hp) : Prop := ∀ b o, b ≠ d → H b = some o → H' b = some o
theorem Kp.refl (d : Addr) (H : Hp) : Kp d H H := fun _ _ _ h => h
theorem Kp.trans {d : Addr} {H H1 H2 : Hp} (a : Kp d H H1) (b : Kp d H1 H2) : Kp d H H2 := fun x o n h => b x o n (a x o n h)
theorem Kp.upd {d : Addr} {H H' : Hp} {o : HO} (a : Kp d H H') : Kp d H (upd H' d o) := fun x u n h => by
  rw [upd_ne n]; exact a x u n h
theorem Kp.new {d p : Addr} {H H' : Hp} {o : HO} (a : Kp d H H') (hp : H' p = none) : Kp d H (L2.upd H' p o) := fun x u n h => by
  have h2 := a x u n h
  rw [upd_ne (ne_of_none h2 hp)]; exact h2
theorem Kp.mut {d p : Addr} {H H' : Hp} {o : HO} (a : Kp d H H') (hp : H p = none) : Kp d H (L2.upd H' p o) := fun x u n h => by
  rw [upd_ne (ne_of_none h hp)]; exact a x u n h
theorem Kp.sq {K : PySem.W.Frag} {d a : Addr} {H H' : Hp} {xs : List V} (k : Kp d H H') (n : a ≠ d) (h : SqL K H a xs) : SqL K H' a xs := by
  rcases h with (h | ⟨o, h⟩) | h
  · exact .inl (.inl (k _ _ n h))
  · exact .inl (.inr ⟨o, k _ _ n h⟩)
  · exact .inr h
theorem DI.keep {d l : Addr} {H H' : Hp} (h : DI d l H) (e : ∀ b o, H b = some o → H' b = some o) : DI d l H' := by
  obtain ⟨n, ⟨ns, h1⟩, i, b, s, c, h0, h2⟩ := h
  exact ⟨n, ⟨ns, e _ _ h1⟩, i, b, s, c, h0, e _ _ h2⟩
theorem DI.at {d l p : Addr} {H : Hp} {o : HO} (h : DI d l H) (n1 : p ≠ d) (n2 : p ≠ l) : DI d l (upd H p o) := by
  obtain ⟨n, ⟨ns, h1⟩, i, b, s, c, h0, h2⟩ := h
  exact ⟨n, ⟨ns, by rw [upd_ne n2.symm]; exact h1⟩, i, b, s, c, h0, by rw [upd_ne n1.symm]; exact h2⟩
theorem DI.new {d l p : Addr} {H : Hp} {o : HO} (h : DI d l H) (hp : H p = none) : DI d l (upd H p o) :=
  h.keep fun b u e => by rw [upd_ne (ne_of_none e hp)]; exact e
theorem DI.nd {d l p : Addr} {H : Hp} (h : DI d l H) (hp : H p = none) : p ≠ d ∧ p ≠ l := by
  obtain ⟨n, ⟨ns, h1⟩, i, b, s, c, h0, h2⟩ := h
  exact ⟨fun e => (by rw [e, h2] at hp; cases hp), fun e => (by rw [e, h1] at hp; cases hp)⟩
theorem DI.set {d l : Addr} {H : Hp} {i b s c : Int} (h : DI d l H) (h0 : 0 ≤ i) : DI d l (upd H d (.lst [.ref l, .int i, .int b, .int s, .int c])) := by
  obtain ⟨n, ⟨ns, h1⟩, _⟩ := h
  exact ⟨n, ⟨ns, by rw [upd_ne n]; exact h1⟩, i, b, s, c, h0, upd_same⟩
section
variable {P : Program} {w : World} {K : PySem.W.Frag} {mg : Str → Option Value} {base : Heap}
/-! ### begin -/
def spBegin (K : PySem.W.Frag) : Sp := fun vs H Q _ => ∃ (a : Addr) (ns : List Int), vs = [.ref a] ∧ SqL K H a (ns.map V.int) ∧ ns.length ≤ 63 ∧
  ∀ H' d l, Same H H' → DI d l H' → Q (.ref d) H'
theorem ok_begin (T : Txt K mg) : FnOk P w K mg base CX0 1 T.a_law_begin T.d_law_begin ["_law_script"] (spBegin K) := by
  refine T.D_law_begin.F.ok sc_law_begin (fun vs H Q E h => ?_) (fun cdv A outer s H vs Q E hr h => ?_)
  · obtain ⟨a, ns, rfl, _⟩ := h
    rfl
  · obtain ⟨a, ns, rfl, hS, hl, q⟩ := h
    refine ⟨_, (pss_one (ps_ret (pe_lst (pa_cons (pe_callTy call_list_of (by rfl) T.n_list (by decide +kernel) (pa_cons (pv 0) pa_nil)) (pa_cons pe_int (pa_cons pe_int (pa_cons pe_int (pa_cons pe_int pa_nil)))))))), ?_⟩
    refine ⟨_, rfl, a, _, rfl, .inl hS, fun l nl => ?_⟩
    refine ⟨by show 5 ≤ sizeLine; decide, fun d nd => ?_⟩
    refine q _ d l (fun b o e => ?_) ?_
    · have n1 : b ≠ l := ne_of_none e nl
      have e1 : upd H l (.lst (ns.map V.int)) b = some o := by rw [upd_ne n1]; exact e
      rw [upd_ne (ne_of_none e1 nd)]
      exact e1
    · have e1 : upd H l (.lst (ns.map V.int)) l = some (.lst (ns.map V.int)) := upd_same
      have n1 : l ≠ d := ne_of_none e1 nd
      exact ⟨n1, ⟨ns, by rw [upd_ne n1]; exact e1⟩, 0, 0, 7, 0, by decide, upd_same⟩
/-! ### draw -/
def spDraw : Sp := fun vs H Q _ => ∃ (d l : Addr) (m : Int), vs = [.ref d, .int m] ∧ DI d l H ∧ m ≤ 1000000 ∧
  ∀ H' r, Kp d H H' → DI d l H' → (m < 2 → r = 0) → (2 ≤ m → 0 ≤ r ∧ r < m) → Q (.int r) H'
theorem ok_draw (T : Txt K mg) : FnOk P w K mg base CX0 1 T.a_law_draw T.d_law_draw ["_law_d", "_law_many"] spDraw := by
  refine T.D_law_draw.F.ok sc_law_draw (fun vs H Q E h => ?_) (fun cdv A outer s H vs Q E hr h => ?_)
  · obtain ⟨d, l, m, rfl, _⟩ := h
    rfl
  · obtain ⟨d, l, m, rfl, hD, hm, q⟩ := h
    refine ⟨_, (pss_cons (ps_if (pt_cmpR op_lt (pv 1) pe_int (nomark _)) (pss_one (ps_ret pe_int)) pss_nil)
      (pss_cons (ps_set (i := 2) sc_law_draw.nd rfl (.inl rfl) (pe_op op_add (pe_op op_mul (pe_ix ix_list (pv 0) pe_int (fun _ _ => rfl)) pe_int) pe_int))
      (Evl.pss_cut (ps_if (PW.pt (pw_and (pt_cmpR op_eq (pe_ix ix_list (pv 0) pe_int (fun _ _ => rfl)) pe_int (nomark _)) (pw_and1 (pt_cmpR op_lt (pe_ix ix_list (pv 0) pe_int (fun _ _ => rfl)) (pe_callB call_len_seq (by rfl) T.n_len PySem.boot_len (pa_cons (pe_ix ix_list (pv 0) pe_int (fun _ _ => rfl)) pa_nil)) (nomark _))))) (pss_cons (ps_set (i := 2) sc_law_draw.nd rfl (.inl rfl) (pe_ix ix_list (pe_ix ix_list (pv 0) pe_int (fun _ _ => rfl)) (pe_ix ix_list (pv 0) pe_int (fun _ _ => rfl)) (fun _ _ => rfl)))
      (pss_cons (ps_asg (pe_op op_add (pe_ix ix_list (pv 0) pe_int (fun _ _ => rfl)) pe_int) (pg_sub (pv 0) pe_int set_list))
      (Evl.pss_cut (ps_if (pt_cmpR op_lt (pv 2) pe_int (nomark _)) (pss_one (ps_set (i := 2) sc_law_draw.nd rfl (.inl rfl) (pe_op op_sub pe_int (pe_op op_mul pe_int (pv 2))))) pss_nil)
      (pss_one (ps_if (pt_cmpR op_ge (pv 2) pe_int (nomark _)) (pss_cons (ps_set (i := 2) sc_law_draw.nd rfl (.inl rfl) (pe_op op_and (pv 2) (pe_op op_sub (pe_op op_shl pe_int pe_int) pe_int)))
      (pss_one (ps_asg (pv 2) (pg_sub (pv 0) pe_int set_list)))) pss_nil))))) pss_nil)
      (pss_cons (ps_if (pt_cmpR op_gt (pe_ix ix_list (pv 0) pe_int (fun _ _ => rfl)) pe_int (nomark _)) (pss_cons (ps_set (i := 3) sc_law_draw.nd rfl (.inl rfl) (pe_op op_modN (pe_callTy call_int1 (by rfl) T.n_int (by decide +kernel) (pa_cons (pe_ix ix_list (pv 0) pe_int (fun _ _ => rfl)) pa_nil)) (pv 1)))
      (pss_cons (ps_asg (pe_op op_fdivN (pe_ix ix_list (pv 0) pe_int (fun _ _ => rfl)) (pv 1)) (pg_sub (pv 0) pe_int set_list))
      (pss_one (ps_ret (pv 3))))) pss_nil)
      (pss_cons (ps_asg (pe_op op_add (pe_ix ix_list (pv 0) pe_int (fun _ _ => rfl)) pe_int) (pg_sub (pv 0) pe_int set_list))
      (pss_cons (ps_asg (pe_op op_modN (pe_callTy call_int1 (by rfl) T.n_int (by decide +kernel) (pa_cons (pe_op op_add (pe_op op_add (pe_op op_mul (pe_ix ix_list (pv 0) pe_int (fun _ _ => rfl)) pe_int) (pe_op op_mul (pv 2) pe_int)) (pe_op op_mul (pe_ix ix_list (pv 0) pe_int (fun _ _ => rfl)) pe_int)) pa_nil)) pe_int) (pg_sub (pv 0) pe_int set_list))
      (pss_one (ps_ret (pe_op op_modN (pe_callTy call_int1 (by rfl) T.n_int (by decide +kernel) (pa_cons (pe_op op_modN (pe_callTy call_int1 (by rfl) T.n_int (by decide +kernel) (pa_cons (pe_op op_add (pe_op op_add (pe_op op_mul (pe_ix ix_list (pv 0) pe_int (fun _ _ => rfl)) pe_int) (pe_op op_mul (pe_ix ix_list (pv 0) pe_int (fun _ _ => rfl)) pe_int)) pe_int) pa_nil)) pe_int) pa_nil)) (pv 1)))))))))), ?_⟩
    refine ⟨_, rfl, _, _, rfl, rfl, _, rfl, ite2 (fun e => ?_) (fun e => ?_)⟩
    · have e := of_decide_eq_true e
      exact q H 0 (Kp.refl d H) hD (fun _ => rfl) (fun z => by omega)
    have hm2 : 2 ≤ m := by
      have e2 : ¬ m < 2 := fun z => e (decide_eq_true z)
      omega
    have hmN : m ≠ 0 := by omega
    have hmA : m.natAbs < 1073741824 := by omega
    have fm : ∀ z : Int, 0 ≤ z.fmod m ∧ z.fmod m < m := fun z => ⟨Int.fmod_nonneg_of_pos z (by omega), Int.fmod_lt_of_pos z (by omega)⟩
    obtain ⟨n, ⟨ns, h1⟩, i, b, s5, c, h0, h2⟩ := id hD
    -- cell = d[4] * 977 + 3
    refine ⟨_, rfl, _, _, _, _, rfl, rfl, SqL.of h2, rfl, _, _, rfl, rfl, .inr ⟨by decide, by decide⟩, _, _, rfl, rfl, ?_⟩
    refine ⟨fun σ' H' => ∃ (cell : Int) (x3 : Option V), σ' = [some (.ref d), some (.int m), some (.int cell), x3] ∧ Kp d H H' ∧ DI d l H', ?_, ?_⟩
    · -- the cell
      refine ⟨_, rfl, _, _, _, _, rfl, rfl, SqL.of h2, rfl, rfl, _, rfl, ite2 (fun e1 => ?_) (fun e1 => ?_)⟩
      · refine ⟨_, rfl, _, _, _, _, rfl, rfl, SqL.of h2, rfl, _, rfl, _, _, _, _, rfl, rfl, SqL.of h2, rfl, _, _, rfl, .inl (SqL.of h1), _, _, rfl, rfl, _, rfl, ite2 (fun e2 => ?_) (fun e2 => ?_)⟩
        · have e2 := of_decide_eq_true e2
          rw [List.length_map] at e2
          obtain ⟨j, rfl⟩ : ∃ j : Nat, i = (j : Int) := ⟨i.toNat, by omega⟩
          have hj : j < ns.length := by omega
          have gj : (ns.map V.int)[j]? = some (.int ns[j]) := by
            rw [List.getElem?_map, List.getElem?_eq_getElem hj]; rfl
          refine ⟨_, rfl, _, _, _, _, rfl, rfl, SqL.of h2, rfl, _, rfl, _, _, _, _, rfl, rfl, SqL.of h2, rfl, _, _, _, _, rfl, rfl, SqL.of h1, atI_nat gj, ?_⟩
          -- d[1] = d[1] + 1
          refine ⟨_, rfl, _, _, _, _, rfl, rfl, SqL.of h2, rfl, _, _, rfl, rfl, _, rfl, _, _, _, _, rfl, rfl, h2, rfl, ?_⟩
          have D1 := hD.set (i := (j : Int) + 1) (b := b) (s := s5) (c := c) (by omega)
          have K1 : Kp d H (upd H d (.lst [.ref l, .int ((j : Int) + 1), .int b, .int s5, .int c])) := (Kp.refl d H).upd
          refine ⟨fun σ' H' => ∃ (cell : Int) (x3 : Option V), σ' = [some (.ref d), some (.int m), some (.int cell), x3] ∧ H' = upd H d (.lst [.ref l, .int ((j : Int) + 1), .int b, .int s5, .int c]), ?_, ?_⟩
          · refine ⟨_, rfl, _, _, rfl, rfl, _, rfl, ite2 (fun _ => ?_) (fun _ => ?_)⟩
            · exact ⟨_, rfl, _, _, rfl, rfl, .inl ⟨by decide, by decide⟩, _, _, rfl, rfl, _, _, rfl, rfl⟩
            · exact ⟨_, _, rfl, rfl⟩
          · rintro σ' H' ⟨cell, x3, rfl, rfl⟩
            refine ⟨_, rfl, _, _, rfl, rfl, _, rfl, ite2 (fun _ => ?_) (fun _ => ?_)⟩
            · refine ⟨_, rfl, _, _, rfl, rfl, ⟨by decide, by decide, by decide⟩, _, _, rfl, rfl, _, _, rfl, rfl, ?_⟩
              refine ⟨_, rfl, _, rfl, _, _, _, _, rfl, rfl, upd_same, rfl, ?_⟩
              exact ⟨_, _, rfl, K1.upd, D1.set (by omega)⟩
            · exact ⟨_, _, rfl, K1, D1⟩
        · exact ⟨_, _, rfl, Kp.refl d H, hD⟩
      · exact ⟨_, _, rfl, Kp.refl d H, hD⟩
    · rintro σ' H1 ⟨cell, x3, rfl, K1, D1⟩
      obtain ⟨n, ⟨ns, h1⟩, i, b, s5, c, h0, h2⟩ := id D1
      refine ⟨_, rfl, _, _, _, _, rfl, rfl, SqL.of h2, rfl, _, _, rfl, rfl, _, rfl, ite2 (fun e1 => ?_) (fun e1 => ?_)⟩
      · refine ⟨_, rfl, _, _, _, _, rfl, rfl, SqL.of h2, rfl, .inl ⟨_, rfl, _, rfl, _, _, rfl, rfl, hmN, ?_⟩⟩
        refine ⟨_, rfl, _, _, _, _, rfl, rfl, SqL.of h2, rfl, _, rfl, _, _, rfl, rfl, ⟨hmN, hmA⟩, _, rfl, _, _, _, _, rfl, rfl, h2, rfl, ?_⟩
        exact ⟨_, rfl, q _ _ K1.upd (D1.set h0) (fun z => by omega) (fun _ => fm _)⟩
      · refine ⟨_, rfl, _, _, _, _, rfl, rfl, SqL.of h2, rfl, _, _, rfl, rfl, _, rfl, _, _, _, _, rfl, rfl, h2, rfl, ?_⟩
        refine ⟨_, rfl, _, _, _, _, rfl, rfl, SqL.of upd_same, rfl, _, _, rfl, rfl, .inr ⟨by decide, by decide⟩, _, rfl, _, _, rfl, rfl, .inr ⟨by decide, by decide⟩, _, _, rfl, rfl, _, rfl, _, _, _, _, rfl, rfl, SqL.of upd_same, rfl, _, _, rfl, rfl, .inr ⟨by decide, by decide⟩, _, _, rfl, rfl, .inl ⟨_, rfl, _, _, rfl, rfl, (by show (2147483647 : Int) ≠ 0; decide), _, rfl, _, _, _, _, rfl, rfl, upd_same, rfl, ?_⟩⟩
        refine ⟨_, rfl, _, _, _, _, rfl, rfl, SqL.of upd_same, rfl, _, _, rfl, rfl, .inr ⟨by decide, by decide⟩, _, rfl, _, _, _, _, rfl, rfl, SqL.of upd_same, rfl, _, _, rfl, rfl, .inr ⟨by decide, by decide⟩, _, _, rfl, rfl, _, _, rfl, rfl, .inl ⟨_, rfl, _, _, rfl, rfl, (by show (2147483399 : Int) ≠ 0; decide), .inl ⟨_, rfl, _, rfl, _, _, rfl, rfl, hmN, ?_⟩⟩⟩
        exact q _ _ K1.upd.upd ((D1.set h0).set h0) (fun z => by omega) (fun _ => fm _)
end
end Vf

set_option Elab.async false
set_option linter.all false
set_option maxRecDepth 100000
set_option maxHeartbeats 4000000
namespace Vf
open PySem PySem.Spec PyProof.Rows L2 TL
/-! ### the mathematics of tokens -/
def sW : Str := "abcdefghijklmnopqrstuvwxyz0123456789.,:;!?'()+=<>*/"
def sL : Str := "abcdefghijklmnopqrstuvwxyz"
def sB : Str := " \n"
def sOdd : Str := "\"#$&-ABCDEFGHIJKLMNOPQRSTUVWXYZ[\\]^_`|~"
def cW (c : Nat) : Bool := decide (c ∈ sW.cps.toList)
def cL (c : Nat) : Bool := decide (c ∈ sL.cps.toList)
def cB (c : Nat) : Bool := decide (c ∈ sB.cps.toList)
/-- the text of these signs -/
def mkS (zs : List Nat) : Str := ⟨zs.toArray⟩
def sV (zs : List Nat) : V := .str (mkS zs)
theorem mkS_cps (zs : List Nat) : (mkS zs).cps.toList = zs := rfl
theorem mkS_of (z : Str) : mkS z.cps.toList = z := rfl
theorem mkS_len (zs : List Nat) : (mkS zs).length = zs.length := by simp [mkS, Str.length]
theorem len_cps (z : Str) : z.length = z.cps.toList.length := by simp [Str.length]
theorem mkS_app (a b : List Nat) : mkS a ++ mkS b = mkS (a ++ b) := by
  have h : (mkS a ++ mkS b).cps.toList = a ++ b := by rw [Str.cps_append, Array.toList_append]; rfl
  rw [← h]
  rfl
theorem mkS_inj {a b : List Nat} (h : mkS a = mkS b) : a = b := by
  have h2 := congrArg (fun z : Str => z.cps.toList) h
  exact h2
theorem sW_list : sW.cps.toList = [97,98,99,100,101,102,103,104,105,106,107,108,109,110,111,112,113,114,115,116,117,118,119,120,121,122,48,49,50,51,52,53,54,55,56,57,46,44,58,59,33,63,39,40,41,43,61,60,62,42,47] := by decide +kernel
theorem sL_list : sL.cps.toList = [97,98,99,100,101,102,103,104,105,106,107,108,109,110,111,112,113,114,115,116,117,118,119,120,121,122] := by decide +kernel
theorem sB_list : sB.cps.toList = [32, 10] := by decide +kernel
theorem cL_W {c : Nat} (h : cL c = true) : cW c = true := by
  have h1 := of_decide_eq_true h
  refine decide_eq_true ?_
  rw [sL_list] at h1
  rw [sW_list]
  rw [show ([97,98,99,100,101,102,103,104,105,106,107,108,109,110,111,112,113,114,115,116,117,118,119,120,121,122,48,49,50,51,52,53,54,55,56,57,46,44,58,59,33,63,39,40,41,43,61,60,62,42,47] : List Nat) = [97,98,99,100,101,102,103,104,105,106,107,108,109,110,111,112,113,114,115,116,117,118,119,120,121,122] ++ [48,49,50,51,52,53,54,55,56,57,46,44,58,59,33,63,39,40,41,43,61,60,62,42,47] from rfl]
  exact List.mem_append_left _ h1
theorem cW_B {c : Nat} (h : cW c = true) : cB c = false := by
  refine decide_eq_false fun h2 => ?_
  rw [sB_list] at h2
  have h1 := of_decide_eq_true h
  rw [sW_list] at h1
  simp only [List.mem_cons, List.not_mem_nil, or_false] at h2
  rcases h2 with rfl | rfl
  · exact absurd h1 (by decide)
  · exact absurd h1 (by decide)
theorem cW_at : cW 64 = false := by
  unfold cW
  rw [sW_list]
  decide
theorem cB_at : cB 64 = false := by
  unfold cB
  rw [sB_list]
  decide
theorem cW_ne {c : Nat} (h : cW c = true) : c ≠ 64 := fun e => by
  rw [e, cW_at] at h
  cases h
theorem drop_le {α : Type} (p : α → Bool) : ∀ l : List α, (l.dropWhile p).length ≤ l.length
  | [] => Nat.le_refl _
  | c :: r => by
    rw [List.dropWhile_cons]
    split
    · exact Nat.le_trans (drop_le p r) (Nat.le_succ _)
    · exact Nat.le_refl _
/-- the tokens of a text -/
def tokF : Nat → List Nat → List (List Nat)
  | 0, _ => []
  | _ + 1, [] => []
  | n + 1, c :: r =>
    if cB c then tokF n r else if c = 64 then (c :: r.takeWhile cL) :: tokF n (r.dropWhile cL)
    else if cW c then (c :: r.takeWhile cW) :: tokF n (r.dropWhile cW) else [c] :: tokF n r
theorem tokF_more : ∀ (n m : Nat) (zs : List Nat), zs.length ≤ n → zs.length ≤ m → tokF n zs = tokF m zs
  | 0, 0, _, _, _ => rfl
  | 0, m + 1, zs, h, _ => by
    have e : zs = [] := List.length_eq_zero_iff.mp (Nat.le_zero.mp h)
    subst e
    rfl
  | n + 1, 0, zs, _, h => by
    have e : zs = [] := List.length_eq_zero_iff.mp (Nat.le_zero.mp h)
    subst e
    rfl
  | n + 1, m + 1, [], _, _ => rfl
  | n + 1, m + 1, c :: r, h1, h2 => by
    have a1 : r.length ≤ n := Nat.le_of_succ_le_succ h1
    have a2 : r.length ≤ m := Nat.le_of_succ_le_succ h2
    have d1 := drop_le cL r
    have d2 := drop_le cW r
    show (if cB c then tokF n r else if c = 64 then (c :: r.takeWhile cL) :: tokF n (r.dropWhile cL) else if cW c then (c :: r.takeWhile cW) :: tokF n (r.dropWhile cW) else [c] :: tokF n r) =
      (if cB c then tokF m r else if c = 64 then (c :: r.takeWhile cL) :: tokF m (r.dropWhile cL) else if cW c then (c :: r.takeWhile cW) :: tokF m (r.dropWhile cW) else [c] :: tokF m r)
    rw [tokF_more n m r a1 a2, tokF_more n m _ (Nat.le_trans d1 a1) (Nat.le_trans d1 a2), tokF_more n m _ (Nat.le_trans d2 a1) (Nat.le_trans d2 a2)]
def tok (zs : List Nat) : List (List Nat) := tokF zs.length zs
theorem tok_nil : tok [] = [] := rfl
theorem tok_cons (c : Nat) (r : List Nat) : tok (c :: r) = if cB c then tok r else if c = 64 then (c :: r.takeWhile cL) :: tok (r.dropWhile cL)
    else if cW c then (c :: r.takeWhile cW) :: tok (r.dropWhile cW) else [c] :: tok r := by
  show (if cB c then tokF r.length r else if c = 64 then (c :: r.takeWhile cL) :: tokF r.length (r.dropWhile cL) else if cW c then (c :: r.takeWhile cW) :: tokF r.length (r.dropWhile cW) else [c] :: tokF r.length r) = _
  rw [tokF_more r.length (r.dropWhile cL).length (r.dropWhile cL) (drop_le _ _) (Nat.le_refl _), tokF_more r.length (r.dropWhile cW).length (r.dropWhile cW) (drop_le _ _) (Nat.le_refl _)]
  rfl
/-! #### what the law's own walk has found, and how it goes on -/
def cont : Nat → List (List Nat) → List Nat → List (List Nat)
  | 1, f, r => f.dropLast ++ ((f.getLast?.getD []) ++ r.takeWhile cW) :: tok (r.dropWhile cW)
  | 2, f, r => f.dropLast ++ ((f.getLast?.getD []) ++ r.takeWhile cL) :: tok (r.dropWhile cL)
  | _, f, r => f ++ tok r
theorem cont0 (f : List (List Nat)) (r : List Nat) : cont 0 f r = f ++ tok r := rfl
theorem cont1 (g : List (List Nat)) (t r : List Nat) : cont 1 (g ++ [t]) r = g ++ (t ++ r.takeWhile cW) :: tok (r.dropWhile cW) := by
  show (g ++ [t]).dropLast ++ (((g ++ [t]).getLast?.getD []) ++ r.takeWhile cW) :: tok (r.dropWhile cW) = _
  rw [List.dropLast_concat, List.getLast?_concat]; rfl
theorem cont2 (g : List (List Nat)) (t r : List Nat) : cont 2 (g ++ [t]) r = g ++ (t ++ r.takeWhile cL) :: tok (r.dropWhile cL) := by
  show (g ++ [t]).dropLast ++ (((g ++ [t]).getLast?.getD []) ++ r.takeWhile cL) :: tok (r.dropWhile cL) = _
  rw [List.dropLast_concat, List.getLast?_concat]; rfl
/-- a sign that goes on -/
theorem cont1_on {c : Nat} (h : cW c = true) (g : List (List Nat)) (t r : List Nat) : cont 1 (g ++ [t]) (c :: r) = cont 1 (g ++ [t ++ [c]]) r := by
  rw [cont1, cont1, List.takeWhile_cons_of_pos h, List.dropWhile_cons_of_pos h, List.append_assoc]; rfl
theorem cont2_on {c : Nat} (h : cL c = true) (g : List (List Nat)) (t r : List Nat) : cont 2 (g ++ [t]) (c :: r) = cont 2 (g ++ [t ++ [c]]) r := by
  rw [cont2, cont2, List.takeWhile_cons_of_pos h, List.dropWhile_cons_of_pos h, List.append_assoc]; rfl
/-- a sign that doesn't -/
theorem cont1_off {c : Nat} (h : cW c = false) (g : List (List Nat)) (t r : List Nat) : cont 1 (g ++ [t]) (c :: r) = cont 0 (g ++ [t]) (c :: r) := by
  rw [cont1, cont0, List.takeWhile_cons_of_neg (by rw [h]; decide), List.dropWhile_cons_of_neg (by rw [h]; decide), List.append_nil, List.append_assoc]; rfl
theorem cont2_off {c : Nat} (h : cL c = false) (g : List (List Nat)) (t r : List Nat) : cont 2 (g ++ [t]) (c :: r) = cont 0 (g ++ [t]) (c :: r) := by
  rw [cont2, cont0, List.takeWhile_cons_of_neg (by rw [h]; decide), List.dropWhile_cons_of_neg (by rw [h]; decide), List.append_nil, List.append_assoc]; rfl
theorem cont_blank {c : Nat} (h : cB c = true) (f : List (List Nat)) (r : List Nat) : cont 0 f (c :: r) = cont 0 f r := by
  rw [cont0, cont0, tok_cons, if_pos h]
theorem cont_at (f : List (List Nat)) (r : List Nat) : cont 0 f (64 :: r) = cont 2 (f ++ [[64]]) r := by
  rw [cont0, cont2, tok_cons, if_neg (by rw [cB_at]; decide), if_pos rfl]; rfl
theorem cont_word {c : Nat} (h : cW c = true) (f : List (List Nat)) (r : List Nat) : cont 0 f (c :: r) = cont 1 (f ++ [[c]]) r := by
  rw [cont0, cont1, tok_cons, if_neg (by rw [cW_B h]; decide), if_neg (cW_ne h), if_pos h]; rfl
theorem cont_odd {c : Nat} (hb : cB c = false) (h : cW c = false) (ha : c ≠ 64) (f : List (List Nat)) (r : List Nat) : cont 0 f (c :: r) = cont 0 (f ++ [[c]]) r := by
  rw [cont0, cont0, tok_cons, if_neg (by rw [hb]; decide), if_neg ha, if_neg (by rw [h]; decide), List.append_assoc]; rfl
theorem cont_end1 (g : List (List Nat)) (t : List Nat) : cont 1 (g ++ [t]) [] = g ++ [t] := by
  rw [cont1]; show g ++ [t ++ []] = _; rw [List.append_nil]
theorem cont_end2 (g : List (List Nat)) (t : List Nat) : cont 2 (g ++ [t]) [] = g ++ [t] := by
  rw [cont2]; show g ++ [t ++ []] = _; rw [List.append_nil]
theorem cont_end0 (f : List (List Nat)) : cont 0 f [] = f := by
  rw [cont0, tok_nil, List.append_nil]
/-! #### tokens put together -/
/-- blanks and line feeds alone -/
def Bl (g : List Nat) : Prop := ∀ c ∈ g, cB c = true
/-- a token -/
def Tk (t : List Nat) : Prop := (∃ c, t = [c] ∧ cB c = false ∧ cW c = false ∧ c ≠ 64) ∨ (∃ r, t = 64 :: r ∧ ∀ c ∈ r, cL c = true) ∨ (t ≠ [] ∧ ∀ c ∈ t, cW c = true)
/-- the one runs on into the other -/
def runs (t u : List Nat) : Bool := if t.headD 0 = 64 then cL (u.headD 0) else cW (t.headD 0) && cW (u.headD 0)
theorem tok_gap : ∀ (g r : List Nat), Bl g → tok (g ++ r) = tok r
  | [], _, _ => rfl
  | c :: g, r, h => by
    rw [List.cons_append, tok_cons, if_pos (h c List.mem_cons_self)]
    exact tok_gap g r fun z hz => h z (List.mem_cons_of_mem _ hz)
theorem take_all {p : Nat → Bool} : ∀ (t r : List Nat), (∀ c ∈ t, p c = true) → (∀ c r', r = c :: r' → p c = false) → (t ++ r).takeWhile p = t ∧ (t ++ r).dropWhile p = r
  | [], [], _, _ => ⟨rfl, rfl⟩
  | [], c :: r, _, h => by
    have e := h c r rfl
    rw [List.nil_append, List.takeWhile_cons_of_neg (by rw [e]; decide), List.dropWhile_cons_of_neg (by rw [e]; decide)]
    exact ⟨rfl, rfl⟩
  | c :: t, r, ht, h => by
    have ⟨a, b⟩ := take_all t r (fun z hz => ht z (List.mem_cons_of_mem _ hz)) h
    rw [List.cons_append, List.takeWhile_cons_of_pos (ht c List.mem_cons_self), List.dropWhile_cons_of_pos (ht c List.mem_cons_self), a, b]
    exact ⟨rfl, rfl⟩
theorem tok_tok {t r : List Nat} (h : Tk t) (hr : r = [] ∨ runs t r = false) : tok (t ++ r) = t :: tok r := by
  rcases h with ⟨c, rfl, hb, hw, ha⟩ | ⟨u, rfl, hu⟩ | ⟨hn, hw⟩
  · show tok (c :: r) = _
    rw [tok_cons, if_neg (by rw [hb]; decide), if_neg ha, if_neg (by rw [hw]; decide)]
  · have hs : ∀ c r', r = c :: r' → cL c = false := by
      intro c r' e
      rcases hr with z | z
      · rw [z] at e; cases e
      · subst e; exact z
    have ⟨a, b⟩ := take_all u r hu hs
    rw [List.cons_append, tok_cons, if_neg (by rw [cB_at]; decide), if_pos rfl, a, b]
  · cases t with
    | nil => exact absurd rfl hn
    | cons c u =>
      have hc := hw c List.mem_cons_self
      have hs : ∀ x r', r = x :: r' → cW x = false := by
        intro x r' e
        rcases hr with z | z
        · rw [z] at e; cases e
        · subst e
          unfold runs at z
          rw [show (c :: u).headD 0 = c from rfl, if_neg (cW_ne hc), hc] at z
          exact z
      have ⟨a, b⟩ := take_all u r (fun z hz => hw z (List.mem_cons_of_mem _ hz)) hs
      rw [List.cons_append, tok_cons, if_neg (by rw [cW_B hc]; decide), if_neg (cW_ne hc), if_pos hc, a, b]
/-- tokens and the gaps behind them, put into one row -/
def mixed : List (List Nat) → List (List Nat) → List Nat
  | t :: ts, g :: gs => t ++ (g ++ mixed ts gs)
  | _, _ => []
/-- what is asked of a gap behind token k -/
def need (ts : List (List Nat)) (k : Nat) : Bool := match ts[k]?, ts[k + 1]? with
  | some t, some u => runs t u
  | _, _ => false
theorem runs_bl {t g r : List Nat} (hn : g ≠ []) (hg : Bl g) : runs t (g ++ r) = false := by
  cases g with
  | nil => exact absurd rfl hn
  | cons c g =>
    have hb := hg c List.mem_cons_self
    have hw : cW c = false := by
      cases e : cW c with
      | false => rfl
      | true => rw [cW_B e] at hb; cases hb
    have hl : cL c = false := by
      cases e : cL c with
      | false => rfl
      | true => rw [cL_W e] at hw; cases hw
    unfold runs
    rw [List.cons_append]
    show (if t.headD 0 = 64 then cL c else cW (t.headD 0) && cW c) = false
    rw [hl, hw, Bool.and_false]
    split <;> rfl
theorem runs_head {t u r : List Nat} (hu : u ≠ []) : runs t (u ++ r) = runs t u := by
  cases u with
  | nil => exact absurd rfl hu
  | cons c u => rfl
theorem Tk.ne {t : List Nat} (h : Tk t) : t ≠ [] := by
  rcases h with ⟨c, rfl, _⟩ | ⟨r, rfl, _⟩ | ⟨h, _⟩
  · exact fun e => by cases e
  · exact fun e => by cases e
  · exact h
theorem tok_mixed : ∀ (ts gs : List (List Nat)), (∀ t ∈ ts, Tk t) → gs.length = ts.length → (∀ k g, gs[k]? = some g → Bl g ∧ (need ts k = true → g ≠ [])) → tok (mixed ts gs) = ts
  | [], [], _, _, _ => rfl
  | [], _ :: _, _, h, _ => by cases h
  | _ :: _, [], _, h, _ => by cases h
  | t :: ts, g :: gs, ht, hl, hg => by
    have ih := tok_mixed ts gs (fun u hu => ht u (List.mem_cons_of_mem _ hu)) (Nat.succ.inj hl) (fun k g' e => by
      have := hg (k + 1) g' e
      exact this)
    obtain ⟨hb, hne⟩ := hg 0 g rfl
    show tok (t ++ (g ++ mixed ts gs)) = t :: ts
    rw [tok_tok (ht t List.mem_cons_self), tok_gap g _ hb, ih]
    by_cases e : g = []
    · subst e
      rw [List.nil_append]
      cases ts with
      | nil => exact .inl (by cases gs <;> rfl)
      | cons u us =>
        cases gs with
        | nil => cases hl
        | cons g2 gs2 =>
          refine .inr ?_
          show runs t (u ++ (g2 ++ mixed us gs2)) = false
          rw [runs_head (ht u (List.mem_cons_of_mem _ List.mem_cons_self)).ne]
          cases q : runs t u with
          | false => rfl
          | true => exact absurd rfl (hne q)
    · exact .inr (runs_bl e hb)
/-! #### small things -/
theorem take_succ' {α : Type} {l : List α} {i : Nat} {x : α} (h : l[i]? = some x) : l.take (i + 1) = l.take i ++ [x] := by
  rw [List.take_add_one, h]; rfl
theorem big_ok {n : Nat} (h : n ≤ 100000) : n ≤ sizeLine := Nat.le_trans h (by decide)
theorem get_sV {ts : List (List Nat)} {i : Nat} {t : List Nat} (h : ts[i]? = some t) : (ts.map sV)[i]? = some (sV t) := by
  rw [List.getElem?_map, h]; rfl
theorem drop_at {zs : List Nat} {i c : Nat} (h : zs[i]? = some c) : zs.drop i = c :: zs.drop (i + 1) := by
  have ⟨h1, h2⟩ := List.getElem?_eq_some_iff.mp h
  rw [List.drop_eq_getElem_cons h1, h2]
theorem same_mut {H H' : Hp} {p : Addr} {o : HO} (a : Same H H') (hp : H p = none) : Same H (upd H' p o) := fun x u h => by
  rw [upd_ne (ne_of_none h hp)]; exact a x u h
theorem same_upd {H H' : Hp} {p : Addr} {o : HO} (a : Same H H') (hp : H' p = none) : Same H (upd H' p o) := fun x u h => by
  have h2 := a x u h
  rw [upd_ne (ne_of_none h2 hp)]; exact h2
theorem dec_sign (c : Nat) (z : Str) (e : Nat) (hz : z = mkS [e]) : decide (V.str ⟨#[c]⟩ = V.str z) = decide (c = e) := by
  rw [hz]
  by_cases h : c = e
  · subst h; rw [decide_eq_true rfl]; exact decide_eq_true rfl
  · rw [decide_eq_false h]
    refine decide_eq_false fun q => h ?_
    have e2 : mkS [c] = mkS [e] := V.str.inj q
    have e3 := mkS_inj e2
    injection e3
theorem tf (b : Bool) : b = true ∨ b = false := by cases b <;> simp
theorem bl_of {p : Prop} [Decidable p] {b : Bool} (h : decide p = b) : V.bl (decide p) = V.bl b := congrArg V.bl h
theorem at_mk : (("@" : Str)) = mkS [64] := by decide +kernel
/-! ### texts put together -/
theorem empty_mk : (("" : Str)) = mkS [] := by decide +kernel
theorem map_sV (zss : List (List Nat)) : zss.map sV = (zss.map mkS).map V.str := by
  rw [List.map_map]; rfl
theorem sum_len : ∀ zss : List (List Nat), ((zss.map mkS).map (·.length)).sum = zss.flatten.length
  | [] => rfl
  | z :: r => by
    rw [List.map_cons, List.map_cons, List.sum_cons, sum_len r, List.flatten_cons, List.length_append, mkS_len]
theorem joinL_nil : ∀ zss : List (List Nat), joinL [] zss = zss.flatten
  | [] => rfl
  | [z] => by show z = z ++ []; rw [List.append_nil]
  | z :: y :: r => by
    show z ++ ([] ++ joinL [] (y :: r)) = z ++ (y :: r).flatten
    rw [List.nil_append, joinL_nil (y :: r)]
theorem join_mk (zss : List (List Nat)) : Txt.join ("" : Str) (zss.map mkS) = mkS zss.flatten := by
  have h : tl (Txt.join ("" : Str) (zss.map mkS)) = zss.flatten := by
    rw [join_eq, tl_join, show (zss.map mkS).map tl = zss from (by rw [List.map_map]; exact List.map_id'' (fun _ => rfl) zss), empty_mk]
    exact joinL_nil zss
  rw [← h]; rfl
theorem flat_len {B : Nat} : ∀ {zss : List (List Nat)}, (∀ z ∈ zss, z.length ≤ B) → zss.flatten.length ≤ zss.length * B
  | [], _ => Nat.zero_le _
  | z :: r, h => by
    have ih := flat_len (zss := r) fun y hy => h y (List.mem_cons_of_mem _ hy)
    have hz := h z List.mem_cons_self
    rw [List.flatten_cons, List.length_append, List.length_cons, Nat.succ_mul]
    omega
theorem flat_one : ∀ {zss : List (List Nat)}, (∀ z ∈ zss, z.length = 1) → zss.flatten.length = zss.length
  | [], _ => rfl
  | z :: r, h => by
    rw [List.flatten_cons, List.length_append, List.length_cons, flat_one fun y hy => h y (List.mem_cons_of_mem _ hy), h z List.mem_cons_self]
    omega
theorem blank_mk : ((" " : Str)) = mkS [32] := by decide +kernel
theorem feed_mk : (("\n" : Str)) = mkS [10] := by decide +kernel
end Vf

set_option Elab.async false
set_option linter.all false
set_option maxRecDepth 100000
set_option maxHeartbeats 4000000
namespace Vf
open PySem PySem.Spec PyProof.Rows L2
/-! ### tuples of signs, sorted -/
inductive SgsAre : List Value → List Nat → Prop
  | nil : SgsAre [] []
  | cons (c : Nat) (t : Tok) {vs : List Value} {cs : List Nat} : SgsAre vs cs → SgsAre (.str ⟨#[c]⟩ t :: vs) (c :: cs)
theorem SgsAre.length {vs : List Value} {cs : List Nat} (h : SgsAre vs cs) : vs.length = cs.length := by
  induction h with
  | nil => rfl
  | cons c t _ ih => rw [List.length_cons, List.length_cons, ih]
theorem sgs_of : ∀ {cs : List Nat} {us : List Value}, Vals (cs.map fun c => V.str ⟨#[c]⟩) us → SgsAre us cs
  | [], _, .nil => .nil
  | c :: cs, _, .cons r t => by
    obtain ⟨k, rfl⟩ := r
    exact .cons c k (sgs_of t)
theorem sgs_uniq {vs : List Value} {cs ds : List Nat} (h : SgsAre vs cs) (h2 : SgsAre vs ds) : cs = ds := by
  induction h generalizing ds with
  | nil => cases h2; rfl
  | cons c t _ ih =>
    cases h2 with
    | cons d t2 h2 => rw [ih h2]
def TupSg (h : Heap) (v : Value) (cs : List Nat) : Prop := ∃ a xs, v = .ref a ∧ IsTup h a xs ∧ SgsAre xs.toList cs
theorem TupSg.keeps {h h' : Heap} {v : Value} {cs : List Nat} (x : TupSg h v cs) (k : ∀ b o, h.get? b = some o → o.cls = .type "tuple" → h'.get? b = some o) : TupSg h' v cs := by
  obtain ⟨a, xs, e, ⟨o, ho, hc, hd⟩, i⟩ := x
  exact ⟨a, xs, e, ⟨o, k _ _ ho hc, hc, hd⟩, i⟩
theorem TupSg.uniq {h : Heap} {v : Value} {cs ds : List Nat} (x : TupSg h v cs) (y : TupSg h v ds) : cs = ds := by
  obtain ⟨a, xs, e, ⟨o, ho, hc, n, hd⟩, i⟩ := x
  obtain ⟨a2, ys, e2, ⟨o2, ho2, hc2, n2, hd2⟩, i2⟩ := y
  rw [e] at e2
  cases e2
  rw [ho] at ho2
  cases ho2
  rw [hd] at hd2
  injection hd2 with h1 h2
  subst h1
  exact sgs_uniq i i2
def nats (cs : List Nat) : List Int := cs.map fun c : Nat => (c : Int)
open Classical in
/-- the signs of a tuple, read off the heap -/
noncomputable def sgsOf (h : Heap) (v : Value) : List Nat := if x : ∃ cs, TupSg h v cs then x.choose else []
theorem TupSg.sgs {h : Heap} {v : Value} {cs : List Nat} (x : TupSg h v cs) : sgsOf h v = cs := by
  have y : ∃ cs, TupSg h v cs := ⟨cs, x⟩
  unfold sgsOf
  rw [dif_pos y]
  exact y.choose_spec.uniq x
section
variable {prog : Program} {w : World} {A : Around} {E : Value → Shared → Prop} {s : Shared} {Q : Bool → Shared → Prop}
theorem oneLt_sg (b : Bool) {p q : Nat} {t u : Tok} (h : Q (decide (p < q)) s) : wpAny (model prog w) A (oneLt' b (.str ⟨#[p]⟩ t) (.str ⟨#[q]⟩ u)) Q E s := by
  have e : decide ((⟨#[p]⟩ : Str).cps.toList < (⟨#[q]⟩ : Str).cps.toList) = decide (p < q) := by
    refine decide_eq_decide.mpr ?_
    show [p] < [q] ↔ p < q
    rw [List.cons_lt_cons_iff]
    constructor
    · rintro (h | ⟨_, h⟩)
      · exact h
      · exact absurd h (List.lt_irrefl _)
    · exact fun h => .inl h
  cases b with
  | true => exact oneLt_str (by rw [e]; exact h)
  | false => exact PySem.W.kat_one _ _ (PyProof.Rows.lt_str (Q := PySem.W.BoolBack Q) (by rw [e]; exact h))
theorem lex_sgs {B : Int} {b : Bool} {xs ys : List Value} {cs ds : List Nat} (i : Nat) (hx : SgsAre xs cs) (hy : SgsAre ys ds) (hl : cs.length = ds.length) (h1 : TS.Bd B (nats cs)) (h2 : TS.Bd B (nats ds))
    (h : Q (decide (TS.code B (nats cs) < TS.code B (nats ds))) s) : PySem.W.KatLex prog w A b false Q (xs.zip ys) i s := by
  induction hx generalizing ys ds i with
  | nil =>
    cases hy with
    | nil =>
      have e : decide (TS.code B (nats []) < TS.code B (nats [])) = false := decide_eq_false (Int.lt_irrefl _)
      rw [e] at h
      exact PySem.W.kat_nil h
    | cons d u hy => simp at hl
  | @cons c t xs cs hx ih =>
    cases hy with
    | nil => simp at hl
    | @cons d u ys ds hy =>
      have hl' : cs.length = ds.length := by simpa using hl
      have hl2 : (nats cs).length = (nats ds).length := by unfold nats; rw [List.length_map, List.length_map, hl']
      show PySem.W.KatLex prog w A b false Q ((Value.str ⟨#[c]⟩ t, Value.str ⟨#[d]⟩ u) :: xs.zip ys) i s
      refine PySem.W.kat_cons (wpAny_eqBool_str ?_)
      by_cases e : c = d
      · subst e
        rw [decide_eq_true rfl]
        have dd : decide (TS.code B (nats (c :: cs)) < TS.code B (nats (c :: ds))) = decide (TS.code B (nats cs) < TS.code B (nats ds)) := decide_eq_decide.mpr (TS.code_same (d := (c : Int)) hl2)
        rw [dd] at h
        exact PySem.W.kat_yes (ih (i + 1) hy hl' h1.tail h2.tail h)
      · have ne : ¬ ((⟨#[c]⟩ : Str) = ⟨#[d]⟩) := fun z => e (by injection z with z; injection z with z; injection z)
        rw [decide_eq_false ne]
        refine PySem.W.kat_no (oneLt_sg _ ?_)
        have dd : decide (TS.code B (nats (c :: cs)) < TS.code B (nats (d :: ds))) = decide (c < d) := by
          refine decide_eq_decide.mpr ⟨fun x => ?_, fun x => TS.code_lt (d := (c : Int)) (e := (d : Int)) hl2 h1.tail h2.tail (by omega)⟩
          rcases Nat.lt_trichotomy c d with y | y | y
          · exact y
          · exact absurd y e
          · have := TS.code_lt hl2.symm h2.tail h1.tail (show ((d : Nat) : Int) < (c : Int) by omega)
            have x2 : TS.code B ((c : Int) :: nats cs) < TS.code B ((d : Int) :: nats ds) := x
            omega
        rw [dd] at h
        exact h
end
def TupsSg (h : Heap) (d : Nat) (B : Int) (vs : List Value) : Prop := ∀ v, v ∈ vs → ∃ cs, TupSg h v cs ∧ cs.length = d ∧ TS.Bd B (nats cs)
theorem TupsSg.keeps {h h' : Heap} {d : Nat} {B : Int} {vs : List Value} (x : TupsSg h d B vs) (k : ∀ b o, h.get? b = some o → o.cls = .type "tuple" → h'.get? b = some o) : TupsSg h' d B vs := fun v hv =>
  let ⟨ns, t, r⟩ := x v hv; ⟨ns, t.keeps k, r⟩
theorem firsts_sg {h : Heap} {d : Nat} {B : Int} (hd : 1 ≤ d) : ∀ vs : List Value, TupsSg h d B vs → ∃ fs, PySem.W.KatTups h vs fs ∧ fs.length = vs.length ∧ ∀ f, f ∈ fs → ∃ z t, f = Value.str z t
  | [], _ => ⟨[], PySem.W.KatTups.nil, rfl, fun f hf => by simp at hf⟩
  | v :: vs, x => by
    obtain ⟨fs, k, hl, hi⟩ := firsts_sg hd vs fun u hu => x u (List.mem_cons_of_mem _ hu)
    obtain ⟨cs, ⟨a, xs, rfl, ⟨o, ho, hc, n, hdt⟩, i⟩, hn, _⟩ := x v (List.mem_cons_self ..)
    cases q : xs.toList with
    | nil =>
      rw [q] at i
      have l := i.length
      rw [List.length_nil, hn] at l
      omega
    | cons y ys =>
      rw [q] at i
      cases i with
      | cons c t i2 =>
        refine ⟨.str ⟨#[c]⟩ t :: fs, PySem.W.KatTups.cons ho hc hdt ?_ k, by simp [hl], ?_⟩
        · have z := congrArg (fun l : List Value => l[0]?) q
          simpa using z
        · intro f hf
          rcases List.mem_cons.mp hf with rfl | hf
          · exact ⟨_, t, rfl⟩
          · exact hi f hf
section
variable {prog : Program} {w : World} {A : Around} {E : Value → Shared → Prop} {s : Shared}
theorem kind_sg {d : Nat} {B : Int} {vs : List Value} (hd : 1 ≤ d) (h2 : 2 ≤ vs.length) (x : TupsSg s.heap d B vs) (r : Value → Int) (hr : ∀ v, v ∈ vs → ∀ cs, TupSg s.heap v cs → r v = TS.code B (nats cs)) (Q : SortKind → Shared → Prop)
    (h : ∀ κ, TS.Cmp prog w A s κ (pairsOf vs) r → Q κ s) : wpAny (model prog w) A (keyKind' vs.toArray) Q E s := by
  obtain ⟨fs, k, hl, hi⟩ := firsts_sg hd vs x
  refine PySem.W.kat_kind (T := Value.type "str") k (by omega) (fun f hf => ?_) rfl (h _ ?_)
  · obtain ⟨n, t, rfl⟩ := hi f hf
    exact PySem.W.Looks.of_pure rfl
  · intro p q hp hq Q' E' hQ
    rw [pairsOf_toList] at hp hq
    obtain ⟨ns, tp, lp, bp⟩ := x _ (mem_zip_self hp).2
    obtain ⟨ms, tq, lq, bq⟩ := x _ (mem_zip_self hq).2
    have ep := hr _ (mem_zip_self hp).2 _ tp
    have eq2 := hr _ (mem_zip_self hq).2 _ tq
    have hQ' : Q' (decide (TS.code B (nats ns) < TS.code B (nats ms))) s := by
      have z : decide (r p.1 < r q.1) = decide (TS.code B (nats ns) < TS.code B (nats ms)) := by rw [ep, eq2]
      rw [← z]; exact hQ
    obtain ⟨a, xs, e1, ⟨o, ho, hc, n, hdt⟩, i⟩ := tp
    obtain ⟨a', ys, e2, ⟨o', ho', hc', n', hdt'⟩, i'⟩ := tq
    rw [e1, e2]
    refine PySem.W.kat_lt ho hdt ho' hdt' ?_
    have sz : decide (xs.size < ys.size) = false := by
      have l1 := i.length
      have l2 := i'.length
      rw [Array.length_toList] at l1 l2
      exact decide_eq_false (by omega)
    rw [sz]
    exact lex_sgs 0 i i' (by omega) bp bq hQ'
/-- list.sort of a list of tuples of signs -/
theorem sort_sgs {a : Addr} {vs : List Value} {n d : Nat} {B : Int} {P : PySem.Fin → Shared → Prop} (ho : s.heap.get? a = some (seqObj "list" vs.toArray n)) (h64 : vs.length < 64) (hd : 1 ≤ d) (x : TupsSg s.heap d B vs)
    (r : Value → Int) (hr : ∀ v, v ∈ vs → ∀ cs, TupSg s.heap v cs → r v = TS.code B (nats cs))
    (h : ∀ out : Array Value, out.toList.Perm vs → out.toList.Pairwise (fun u v => r u ≤ r v) → P (.done (.ret .none)) { s with heap := sortedHeap s.heap a vs out }) :
    wpAny (model prog w) A (Builtin.«list.sort» ⟨[.ref a], []⟩) P E s := by
  have keep : ∀ b o, s.heap.get? b = some o → o.cls = .type "tuple" → (TS.midHeap s.heap a vs).get? b = some o := fun b o e hc => by
    refine TS.midHeap_old ?_ e
    rintro rfl
    rw [ho] at e
    have e' : seqObj "list" vs.toArray n = o := Option.some.inj e
    rw [← e'] at hc
    have c' : Value.type "list" = Value.type "tuple" := hc
    injection c' with c''
    exact absurd c'' (by decide)
  refine SK.plain_sort (r := r) ho h64 (fun h2 Q hQ => ?_) fun ps out h1 h2 h3 => ?_
  · refine kind_sg (s := { s with heap := TS.midHeap s.heap a vs }) hd h2 (x.keeps keep) r (fun v hv cs t => ?_) Q hQ
    obtain ⟨cs0, t0, _⟩ := x v hv
    have e : cs = cs0 := t.uniq (t0.keeps keep)
    rw [e]
    exact hr v hv cs0 t0
  · obtain ⟨p, o⟩ := TS.out_rank h1 h2 h3
    exact h out p o
end
section
variable {X : Cx}
/-- sorted(d) of a dict with fewer than 64 keys, all tuples of two signs -/
def rSortedDS : List V → Hp → VK → Prop := fun xs H Q => ∃ (a : Addr) (kvs : List (List Key × V)) (ks : List (Nat × Nat)), xs = [.ref a] ∧ Rd H a (.dT kvs) ∧ kvs.map (·.1) = ks.map (fun k => [Sum.inr ⟨#[k.1]⟩, Sum.inr ⟨#[k.2]⟩]) ∧ ks.length < 64 ∧ (∀ k ∈ ks, k.1 < 2000000 ∧ k.2 < 2000000) ∧
    ∀ (ys : List (Addr × Nat × Nat)) (p : Addr), (ys.map (·.2)).Perm ks → (ys.map (·.2)).Pairwise (fun a b => a.1 < b.1 ∨ (a.1 = b.1 ∧ a.2 ≤ b.2)) → (∀ y ∈ ys, H y.1 = some (.tup [.str ⟨#[y.2.1]⟩, .str ⟨#[y.2.2]⟩])) → H p = none → Q (.ref p) (upd H p (.lst (ys.map fun y => V.ref y.1)))
theorem perm_lift {α β : Type} {f : α → β} : ∀ {l : List α} {m : List β}, m.Perm (l.map f) → ∃ l' : List α, l'.Perm l ∧ l'.map f = m := by
  intro l m h
  generalize e : l.map f = n at h
  induction h generalizing l with
  | nil =>
    cases l with
    | nil => exact ⟨[], .nil, rfl⟩
    | cons _ _ => cases e
  | @cons x l1 l2 h ih =>
    cases l with
    | nil => cases e
    | cons y r =>
      injection e with e1 e2
      obtain ⟨l', p, q⟩ := ih e2
      exact ⟨y :: l', p.cons y, by rw [List.map_cons, q, e1]⟩
  | swap x y r =>
    match l, e with
    | a :: b :: l, e =>
      injection e with e1 e2
      injection e2 with e2 e3
      exact ⟨b :: a :: l, .swap a b l, by rw [List.map_cons, List.map_cons, e1, e2, e3]⟩
  | trans h1 h2 ih1 ih2 =>
    obtain ⟨l', p, q⟩ := ih2 e
    obtain ⟨l'', p2, q2⟩ := ih1 q
    exact ⟨l'', p2.trans p, q2⟩
theorem call_sortedDS (hcalm : X.calm = true) : CallR X (.builtin "sorted") rSortedDS := by
  intro pins s σ H xs us Q I r q
  obtain ⟨d, kvs, ks0, ex, hd, hks, h64, hbd, q⟩ := q
  subst ex
  obtain ⟨u, rfl, rx⟩ := r.one
  cases rx
  obtain ⟨z, hs, ks, pr, o, es, ep, ho, hx, hdt, he, hn⟩ := (show ObjOk X.prog X.w H s.heap d (.dT kvs) from hd.ok I.hok)
  have l1 : es.size = ks.length := size_of_entries he
  have l2 : kvs.length = ks.length := Paired.length pr
  have l3 : kvs.length = ks0.length := by
    have e := congrArg List.length hks
    rw [List.length_map, List.length_map] at e
    exact e
  have hK : IsKeys H kvs (ks.map fun x => x.2.1) := isKeys_of pr
  generalize hbs : (ks.map fun x => x.2.1) = bs at hK
  have lb : bs.length = ks0.length := by rw [← hbs, List.length_map, ← l2, l3]
  have hb : ∀ (j : Nat) (b : Addr), bs[j]? = some b → ∃ k : Nat × Nat, ks0[j]? = some k ∧ H b = some (.tup [.str ⟨#[k.1]⟩, .str ⟨#[k.2]⟩]) := by
    intro j b hj
    obtain ⟨y, hy, hyb⟩ := L2.DX.pget hK hj
    have hj2 : j < ks0.length := by rw [← lb]; exact (List.getElem?_eq_some_iff.mp hj).1
    refine ⟨ks0[j], List.getElem?_eq_getElem hj2, ?_⟩
    have e := congrArg (fun l => l[j]?) hks
    simp only [List.getElem?_map, hy, List.getElem?_eq_getElem hj2, Option.map_some] at e
    have e2 := Option.some.inj e
    rw [hyb, e2]; rfl
  have hz : ∀ y ∈ bs.zip ks0, H y.1 = some (.tup [.str ⟨#[y.2.1]⟩, .str ⟨#[y.2.2]⟩]) := by
    intro y hy
    obtain ⟨j, hj⟩ := List.mem_iff_getElem?.mp hy
    rw [List.getElem?_zip_eq_some] at hj
    obtain ⟨k, hk, e⟩ := hb j y.1 hj.1
    rw [hj.2] at hk
    have := Option.some.inj hk
    rw [e, this]
  have hzs : (bs.zip ks0).map (·.2) = ks0 := List.map_snd_zip (by omega)
  have hzf : (bs.zip ks0).map (fun y => Value.ref y.1) = bs.map Value.ref := by
    have := congrArg (List.map Value.ref) (List.map_fst_zip (l₁ := bs) (l₂ := ks0) (by omega))
    rw [List.map_map] at this
    exact this
  refine Calls.call_function_entry PyProof.Rows.kind_sorted PyProof.Rows.plain_sorted PyProof.Rows.entry_sorted (PyProof.Rows.args_sorted1 _) ?_
  unfold Builtin.«sorted»
  refine wpAny_bind (m := checkCount "sorted" 1 1 _) (wpAny_pure ?_)
  refine wpAny_bind (PySem.W.kdu_collect (A := X.A.in1) (kdl_raw hs hx hdt) (I.ok.hd hcalm) ho (by omega) fun h' tk acc kp it => ?_)
  have ea : acc.toList = ks.map fun x => Value.ref x.2.1 := by
    have hl : acc.toList.length = ks.length := by rw [Array.length_toList, it.1]; exact l1
    apply List.ext_getElem?
    intro j
    rw [List.getElem?_map]
    cases hj : acc.toList[j]? with
    | none =>
      have h1 := List.getElem?_eq_none_iff.mp hj
      rw [List.getElem?_eq_none (by omega)]
      all_goals rfl
    | some v =>
      obtain ⟨en, hen, hv⟩ := it.2 j v (by rw [← Array.getElem?_toList]; exact hj)
      have qe := entry_at he j
      rw [hen] at qe
      cases hb : ks[j]? with
      | none =>
        rw [hb] at qe
        exact nomatch (show some en = none from qe)
      | some b =>
        rw [hb] at qe
        have e2 : en = entryOfKey (tupleKind (mixKind X.prog X.w)) b := Option.some.inj qe
        rw [hv, e2]
        all_goals rfl
  have eb : acc.toList = (bs.zip ks0).map fun y => Value.ref y.1 := by rw [ea, hzf, ← hbs, List.map_map]; all_goals rfl
  have lz : (bs.zip ks0).length = ks0.length := by rw [List.length_zip]; omega
  have I1 : Inv X pins σ H { s with heap := h', toks := tk } := I.kept kp
  have tsg : ∀ y ∈ bs.zip ks0, TupSg h' (.ref y.1) [y.2.1, y.2.2] := by
    intro y hy
    obtain ⟨its, rv, ht, _⟩ := I1.tuple (.inl (.inl (hz y hy)))
    exact ⟨y.1, its.toArray, rfl, ht, by simpa using sgs_of (cs := [y.2.1, y.2.2]) rv⟩
  have bd : ∀ y ∈ bs.zip ks0, y.2.1 < 2000000 ∧ y.2.2 < 2000000 := fun y hy => hbd y.2 (by rw [← hzs]; exact List.mem_map.mpr ⟨y, hy, rfl⟩)
  rw [eb]
  refine wpAny_bind (wpAny_newList ?_ (by rw [List.length_map, lz, sizeLine_eq]; omega))
  have hoL : (h'.push (seqObj "list" ((bs.zip ks0).map fun y => Value.ref y.1).toArray 0)).get? h'.objs.size = some (seqObj "list" ((bs.zip ks0).map fun y => Value.ref y.1).toArray 0) := Heap.get?_push_size _ rfl
  show wpAny _ _ _ _ _ { s with heap := h'.push (seqObj "list" ((bs.zip ks0).map fun y => Value.ref y.1).toArray 0), toks := tk }
  have keep : ∀ b o, h'.get? b = some o → o.cls = .type "tuple" → (h'.push (seqObj "list" ((bs.zip ks0).map fun y => Value.ref y.1).toArray 0)).get? b = some o := fun b o e _ => Heap.get?_push_of_some _ e
  have hsg : ∀ v ∈ (bs.zip ks0).map (fun y => Value.ref y.1), ∃ cs, TupSg h' v cs ∧ cs.length = 2 ∧ TS.Bd 2000000 (nats cs) := by
    intro v hv
    obtain ⟨y, hy, rfl⟩ := List.mem_map.mp hv
    refine ⟨_, tsg y hy, rfl, fun m hm => ?_⟩
    have b := bd y hy
    have hm : m ∈ [((y.2.1 : Nat) : Int), ((y.2.2 : Nat) : Int)] := hm
    simp only [List.mem_cons, List.not_mem_nil, or_false] at hm
    rcases hm with rfl | rfl <;> omega
  refine wpAny_bind (wpAny_holding (wpAny_call_entry PyProof.Rows.slot_list_sort ⟨_, hoL, rfl⟩ PyProof.Rows.entry_list_sort
    (sort_sgs (s := { s with heap := h'.push (seqObj "list" ((bs.zip ks0).map fun y => Value.ref y.1).toArray 0), toks := tk }) (d := 2) (B := 2000000) hoL (by rw [List.length_map, lz]; exact h64) (by decide)
      (fun v hv => by obtain ⟨cs, t, r⟩ := hsg v hv; exact ⟨cs, t.keeps keep, r⟩) (fun v => TS.code 2000000 (nats (sgsOf h' v))) (fun v hv cs t => by
        obtain ⟨cs0, t0, _⟩ := hsg v hv
        have e : cs = cs0 := t.uniq (t0.keeps keep)
        rw [e]
        show TS.code 2000000 (nats (sgsOf h' v)) = _
        rw [t0.sgs]) fun out g1 g2 => ⟨_, rfl, ?_⟩)
    (PyProof.Rows.args_list_sort _)))
  obtain ⟨ys, p1, p2⟩ := perm_lift g1
  have ym : ∀ y ∈ ys, y ∈ bs.zip ks0 := fun y hy => p1.mem_iff.mp hy
  obtain ⟨e', he'⟩ := PyProof.Rows.sortedHeap_at (vs := (bs.zip ks0).map fun y => Value.ref y.1) (out := out) hoL
  have hlen : (ys.map fun y => V.ref y.1).length ≤ sizeLine := by
    rw [List.length_map, p1.length_eq, lz]
    exact Nat.le_trans (Nat.le_of_lt h64) (by decide)
  have vr : ∀ l : List (Addr × Nat × Nat), Vals (l.map fun y => V.ref y.1) (l.map fun y => Value.ref y.1) := fun l => by
    induction l with
    | nil => exact .nil
    | cons y r ih => exact .cons rfl ih
  refine wpAny_pure ⟨_, rfl, .ref h'.objs.size, upd H h'.objs.size (.lst (ys.map fun y => V.ref y.1)), I1.laid (t' := tk) (fun b u e => ?_) (Nat.le_refl _)
    (show ObjOk X.prog X.w _ _ _ (.lst (ys.map fun y => V.ref y.1)) from ⟨hlen, out.toList, e', by rw [← p2]; exact vr ys, by rw [Array.toArray_toList]; exact he'⟩), rfl, q ys _ ?_ ?_ (fun y hy => hz y (ym y hy)) (I1.hok.fresh (Nat.le_refl _))⟩
  · have hb : b < h'.objs.size := Heap.lt_size e
    rw [PyProof.Rows.sortedHeap_old (Nat.ne_of_lt hb) (by rw [size_push']; exact Nat.lt_succ_of_lt hb)]
    exact Heap.get?_push_of_some _ e
  · rw [← hzs]; exact p1.map _
  · rw [← p2, List.pairwise_map] at g2
    rw [List.pairwise_map]
    refine List.Pairwise.imp_of_mem (fun {x y} hx hy h => ?_) g2
    rw [(tsg x (ym x hx)).sgs, (tsg y (ym y hy)).sgs] at h
    have b1 := bd x (ym x hx)
    have b2 := bd y (ym y hy)
    have h : ((x.2.1 : Nat) : Int) * 2000000 ^ 1 + (((x.2.2 : Nat) : Int) * 2000000 ^ 0 + 0) ≤ ((y.2.1 : Nat) : Int) * 2000000 ^ 1 + (((y.2.2 : Nat) : Int) * 2000000 ^ 0 + 0) := h
    omega
end

/-! ### t < u of tuples of texts -/
def lexS : List Str → List Str → Bool
  | [], [] => false
  | [], _ :: _ => true
  | _ :: _, [] => false
  | x :: xs, y :: ys => if x = y then lexS xs ys else decide (x.cps.toList < y.cps.toList)
section
open PySem.SeqAt
open PySem.AutoSeq1 (wpAny_loadPart')
open PySem.MeetsSeq PySem.MeetsSeq2 PySem.MeetsSeq3
theorem tuple_lt_strs (l b : Addr) (items items2 : Array Value) (n n2 : Nat) (dd dd2 : Option Addr) (sl sl2 : Array (Option Value)) (ns ms : List Str) (hi : StrsAre items.toList ns) (hj : StrsAre items2.toList ms) :
    Meets (Builtin.«tuple.__lt__» ⟨[.ref l, .ref b], []⟩)
      (fun _ R s => s.heap.get? l = some { cls := .type "tuple", dict := dd, data := .seq items n, slots := sl } ∧ s.heap.get? b = some { cls := .type "tuple", dict := dd2, data := .seq items2 n2, slots := sl2 } ∧
        R (.ok (.ret (.bool (lexS ns ms)))) s) :=
  .of_wp fun prog w A R s h => by
    obtain ⟨hp, g, d, tk, os⟩ := s; obtain ⟨hl, hb, h⟩ := h
    have f2 := AutoSeq1.sub_tuple_tuple
    have z1 : items.size = ns.length := by rw [← hi.length]; simp
    have z2 : items2.size = ms.length := by rw [← hj.length]; simp
    wp_walk using wpAny_loadPart' hl, wpAny_loadPart' hb, wpAny_forIn_list _ (fun rest b s' => b.1 = none ∧ s' = ⟨hp, g, d, tk, os⟩ ∧ ∃ (vs ws : List Value) (ns' ms' : List Str), rest = vs.zip ws ∧
      StrsAre vs ns' ∧ StrsAre ws ms' ∧ ns'.length + items2.size = ms'.length + items.size ∧ R (.ok (.ret (.bool (lexS ns' ms')))) ⟨hp, g, d, tk, os⟩) _
    case turn =>
      rintro ⟨y, x⟩ rest b s' ⟨hb', rfl, vs, ws, ns', ms', hz, hvi, hwi, hlen, hR⟩
      cases hvi with
      | nil => rw [List.zip_nil_left] at hz; cases hz
      | cons a t hvi' =>
        cases hwi with
        | nil => rw [List.zip_nil_right] at hz; cases hz
        | cons c u hwi' =>
          rw [List.zip_cons_cons] at hz
          injection hz with hyx hrest
          injection hyx with hy hx
          subst hy hx
          have e0 : ∀ p q : List Str, lexS (a :: p) (c :: q) = if a = c then lexS p q else decide (a.cps.toList < c.cps.toList) := fun _ _ => rfl
          rw [e0] at hR
          simp only [List.length_cons] at hlen
          have he := SeqAt.EqAt.str_str (A := A.in1) (s := ⟨hp, g, d, tk, os⟩) a t c u
          by_cases e : a = c
          · rw [show (a == c) = true from beq_iff_eq.mpr e] at he
            refine wpAny_bind (he prog w _ _ ?_)
            rw [if_pos e] at hR
            wp_walk
            exact ⟨rfl, rfl, _, _, _, _, hrest, hvi', hwi', by omega, hR⟩
          · rw [show (a == c) = false from beq_eq_false_iff_ne.mpr e] at he
            refine wpAny_bind (he prog w _ _ ?_)
            rw [if_neg e] at hR
            have hri := DT.rcLt_str A.in1 ⟨hp, g, d, tk, os⟩ a t c u prog w
            wp_walk using hri
            exact ⟨_, rfl, by simpa using hR⟩
    case fin =>
      rintro ⟨b1, b2⟩ s' ⟨hb', rfl, vs, ws, ns', ms', hz, hvi, hwi, hlen, hR⟩
      simp only at hb'
      subst hb'
      have hv : lexS ns' ms' = decide (items.size < items2.size) := by
        cases hvi with
        | nil =>
          cases hwi with
          | nil =>
            simp only [List.length_nil] at hlen
            exact (decide_eq_false (by omega)).symm
          | cons c u hw =>
            simp only [List.length_nil, List.length_cons] at hlen
            exact (decide_eq_true (by omega)).symm
        | cons a t hv =>
          cases hwi with
          | nil =>
            simp only [List.length_nil, List.length_cons] at hlen
            exact (decide_eq_false (by omega)).symm
          | cons c u hw =>
            rw [List.zip_cons_cons] at hz
            cases hz
      rw [hv] at hR
      wp_walk
      exact ⟨_, rfl, by simpa [Builtin.Tuple.tupleCompareSizes] using hR⟩
    case h =>
      exact ⟨rfl, rfl, items.toList, items2.toList, ns, ms, rfl, hi, hj, by omega, h⟩
end
section
variable {prog : Program} {w : World} {A : Around} {E : Value → Shared → Prop} {s : Shared}
theorem lt_tupStrs {l b : Addr} {items items2 : Array Value} {ns ms : List Str} {Q : Value → Shared → Prop} (hl : IsTup s.heap l items) (hb : IsTup s.heap b items2) (hi : StrsAre items.toList ns) (hj : StrsAre items2.toList ms)
    (hu : A.units < cLine) (h : Q (.bool (lexS ns ms)) s) : wpAny (model prog w) A (compareOp .Lt (.ref l) (.ref b)) Q E s := by
  obtain ⟨⟨cls, dd, data, sl⟩, ho, hc, n, hd⟩ := id hl
  obtain ⟨⟨cls2, dd2, data2, sl2⟩, ho2, hc2, n2, hd2⟩ := id hb
  simp only at hc hd hc2 hd2
  subst hc hd hc2 hd2
  exact richCompare_meets_room (op := .Lt) ⟨_, ho, rfl⟩ ⟨_, ho2, rfl⟩ PySem.F.slot_tuple_lt PySem.F.entry_tuple_lt (PySem.F.args_tuple_lt_2 _ _) (tuple_lt_strs l b items items2 n n2 dd dd2 sl sl2 ns ms hi hj)
    ⟨ho, ho2, show Value.bool (lexS ns ms) ≠ Value.notImplemented ∧ Q (.bool (lexS ns ms)) s from ⟨(fun x => nomatch x), h⟩⟩ hu
end
theorem strsAre_of : ∀ {ns : List Str} {us : List Value}, Vals (ns.map V.str) us → StrsAre us ns
  | [], _, .nil => .nil
  | c :: cs, _, .cons r t => by
    obtain ⟨k, rfl⟩ := r
    exact .cons c k (strsAre_of t)
def rLtS (K : PySem.W.Frag) : R2 := fun x y H Q => ∃ (a b : Addr) (ns ms : List Str), x = .ref a ∧ y = .ref b ∧ SqT K H a (ns.map V.str) ∧ SqT K H b (ms.map V.str) ∧ Q (.bl (lexS ns ms)) H
theorem op_ltS {X : Cx} (hu : X.A.units < cLine) : OpR X (compareOp .Lt) (rLtS X.K) := by
  intro pins s σ H x y v u Q I rx ry h
  obtain ⟨a, b, ns, ms, rfl, rfl, ha, hb, q⟩ := h
  cases rx
  cases ry
  obtain ⟨its, r1, p1, _⟩ := I.tuple ha
  obtain ⟨its2, r2, p2, _⟩ := I.tuple hb
  exact lt_tupStrs p1 p2 (by simpa using strsAre_of r1) (by simpa using strsAre_of r2) hu ⟨.bl (lexS ns ms), H, I, rfl, q⟩
end Vf

set_option Elab.async false
set_option linter.all false
set_option maxRecDepth 100000
set_option maxHeartbeats 4000000
namespace Vf
open PySem PySem.Spec PyProof.Rows L2 TL
/-! ### styles, pieces, shapes: the mathematics -/
theorem at_map {α β : Type} {f : α → β} {l : List α} {i : Nat} {y : β} (h : (l.map f)[i]? = some y) : ∃ x, l[i]? = some x ∧ f x = y := by
  rw [List.getElem?_map] at h
  cases e : l[i]? with
  | none => rw [e] at h; cases h
  | some x => rw [e] at h; exact ⟨x, rfl, Option.some.inj h⟩
theorem drop_y {α : Type} {l : List α} {i : Nat} {x : α} (h : l[i]? = some x) : l.drop i = x :: l.drop (i + 1) := by
  have ⟨h1, h2⟩ := List.getElem?_eq_some_iff.mp h
  rw [List.drop_eq_getElem_cons h1, h2]
theorem lt_s {n : Nat} (h : n < 100000) : n < sizeLine := Nat.lt_of_lt_of_le h (by decide)
def sg1 (c : Nat) : Str := ⟨#[c]⟩
def sgn (c : Nat) : V := sV [c]
def look {κ β : Type} [DecidableEq κ] (L : List (κ × β)) (k : κ) : Option β := (L.find? fun r => decide (r.1 = k)).map (·.2)
theorem look_nil {κ β : Type} [DecidableEq κ] (k : κ) : look ([] : List (κ × β)) k = none := rfl
theorem look_hit {κ β : Type} [DecidableEq κ] {r : κ × β} {L : List (κ × β)} : look (r :: L) r.1 = some r.2 := by
  unfold look
  rw [List.find?_cons_of_pos (by simp)]; rfl
theorem look_miss {κ β : Type} [DecidableEq κ] {r : κ × β} {L : List (κ × β)} {k : κ} (h : r.1 ≠ k) : look (r :: L) k = look L k := by
  unfold look
  rw [List.find?_cons_of_neg (by simpa using h)]
theorem look_none {κ β : Type} [DecidableEq κ] {L : List (κ × β)} {k : κ} (h : ∀ r ∈ L, r.1 ≠ k) : look L k = none := by
  induction L with
  | nil => rfl
  | cons r L ih => rw [look_miss (h r List.mem_cons_self)]; exact ih fun x hx => h x (List.mem_cons_of_mem _ hx)
theorem look_mem {κ β : Type} [DecidableEq κ] {L : List (κ × β)} {k : κ} {x : β} (h : look L k = some x) : (k, x) ∈ L := by
  induction L with
  | nil => cases h
  | cons r L ih =>
    by_cases e : r.1 = k
    · subst e
      rw [look_hit] at h
      have : r.2 = x := Option.some.inj h
      subst this
      exact List.mem_cons_self
    · rw [look_miss e] at h
      exact List.mem_cons_of_mem _ (ih h)
theorem look_map {κ κ' β β' : Type} [DecidableEq κ] [DecidableEq κ'] {f : κ → κ'} {g : β → β'} (hf : ∀ a b, f a = f b → a = b) (L : List (κ × β)) (k : κ) : look (L.map fun r => (f r.1, g r.2)) (f k) = (look L k).map g := by
  induction L with
  | nil => rfl
  | cons r L ih =>
    by_cases e : r.1 = k
    · subst e
      rw [look_hit, List.map_cons]
      exact look_hit (r := (f r.1, g r.2))
    · rw [look_miss e, List.map_cons, look_miss (r := (f r.1, g r.2)) (fun z => e (hf _ _ z)), ih]
theorem look_at {κ β : Type} [DecidableEq κ] {L : List (κ × β)} {i : Nat} {r : κ × β} (h : L[i]? = some r) (hb : ∀ (j : Nat) q, j < i → L[j]? = some q → q.1 ≠ r.1) : look L r.1 = some r.2 := by
  induction L generalizing i with
  | nil => simp at h
  | cons q L ih =>
    cases i with
    | zero =>
      have h : q = r := by simpa using h
      subst h
      exact look_hit
    | succ i =>
      rw [look_miss (hb 0 q (Nat.succ_pos _) rfl)]
      exact ih (i := i) (by simpa using h) fun j q hj hq => hb (j + 1) q (Nat.succ_lt_succ hj) (by simpa using hq)
def lexN : List Nat → List Nat → Bool
  | [], [] => false
  | [], _ :: _ => true
  | _ :: _, [] => false
  | x :: xs, y :: ys => if x = y then lexN xs ys else decide (x < y)
theorem lexN_irr : ∀ k : List Nat, lexN k k = false
  | [] => rfl
  | x :: xs => by
    show (if x = x then _ else _) = false
    rw [if_pos rfl]; exact lexN_irr xs
theorem lexN_ne {a b : List Nat} (h : lexN a b = true) : a ≠ b := fun e => by rw [e, lexN_irr] at h; cases h
theorem lexN_trans : ∀ {a b c : List Nat}, lexN a b = true → lexN b c = true → lexN a c = true
  | [], [], _, h, _ => by cases h
  | [], _ :: _, [], _, h => by cases h
  | [], _ :: _, _ :: _, _, _ => rfl
  | _ :: _, [], _, h, _ => by cases h
  | _ :: _, _ :: _, [], _, h => by cases h
  | x :: xs, y :: ys, z :: zs, h1, h2 => by
    have h1 : (if x = y then lexN xs ys else decide (x < y)) = true := h1
    have h2 : (if y = z then lexN ys zs else decide (y < z)) = true := h2
    show (if x = z then lexN xs zs else decide (x < z)) = true
    by_cases e1 : x = y
    · rw [if_pos e1] at h1
      by_cases e2 : y = z
      · rw [if_pos e2] at h2
        rw [if_pos (e1.trans e2)]; exact lexN_trans h1 h2
      · rw [if_neg e2] at h2
        rw [if_neg (fun e => e2 (e1.symm.trans e)), e1]; exact h2
    · rw [if_neg e1] at h1
      have l1 := of_decide_eq_true h1
      by_cases e2 : y = z
      · rw [if_neg (fun e => e1 (e.trans e2.symm)), ← e2]; exact h1
      · rw [if_neg e2] at h2
        have l2 := of_decide_eq_true h2
        rw [if_neg (by omega)]
        exact decide_eq_true (by omega)
theorem lexN_total : ∀ {a b : List Nat}, a ≠ b → lexN a b = true ∨ lexN b a = true
  | [], [], h => absurd rfl h
  | [], _ :: _, _ => .inl rfl
  | _ :: _, [], _ => .inr rfl
  | x :: xs, y :: ys, h => by
    show (if x = y then lexN xs ys else decide (x < y)) = true ∨ (if y = x then lexN ys xs else decide (y < x)) = true
    by_cases e : x = y
    · rw [if_pos e, if_pos e.symm]
      exact lexN_total fun z => h (by rw [e, z])
    · rw [if_neg e, if_neg (Ne.symm e)]
      rcases Nat.lt_trichotomy x y with l | l | l
      · exact .inl (decide_eq_true l)
      · exact absurd l e
      · exact .inr (decide_eq_true l)
theorem lexS_map : ∀ a b : List Nat, lexS (a.map sg1) (b.map sg1) = lexN a b
  | [], [] => rfl
  | [], _ :: _ => rfl
  | _ :: _, [] => rfl
  | x :: xs, y :: ys => by
    show (if sg1 x = sg1 y then lexS (xs.map sg1) (ys.map sg1) else decide ((sg1 x).cps.toList < (sg1 y).cps.toList)) = if x = y then lexN xs ys else decide (x < y)
    have e1 : sg1 x = sg1 y ↔ x = y := ⟨fun z => by have := congrArg (fun t : Str => t.cps.toList) z; exact (List.cons.inj this).1, fun z => by rw [z]⟩
    by_cases e : x = y
    · rw [if_pos (e1.mpr e), if_pos e, lexS_map xs ys]
    · rw [if_neg (fun z => e (e1.mp z)), if_neg e]
      refine decide_eq_decide.mpr ?_
      show [x] < [y] ↔ x < y
      rw [List.cons_lt_cons_iff]
      constructor
      · rintro (h | ⟨_, h⟩)
        · exact h
        · exact absurd h (List.lt_irrefl _)
      · exact fun h => .inl h
/-- rows by strictly ascending keys -/
def Asc {β : Type} (L : List (List Nat × β)) : Prop := L.Pairwise fun p q => lexN p.1 q.1 = true
theorem Asc.lt {β : Type} {L : List (List Nat × β)} (h : Asc L) {i j : Nat} {p q : List Nat × β} (hp : L[i]? = some p) (hq : L[j]? = some q) (hij : i < j) : lexN p.1 q.1 = true := by
  obtain ⟨p1, e1⟩ := List.getElem?_eq_some_iff.mp hp
  obtain ⟨p2, e2⟩ := List.getElem?_eq_some_iff.mp hq
  have := List.pairwise_iff_getElem.mp h i j p1 p2 hij
  rw [e1, e2] at this
  exact this
structure Sty where
  m : Int
  dp : Int
  cl : Int
  W : List (Nat × Nat)
  C : List ((Nat × Nat) × Nat)
  B : List ((Nat × Nat) × Nat)
def natV (w : Nat) : V := .int (w : Int)
def rowsW (W : List (Nat × Nat)) : List (List Nat × V) := W.map fun r => ([r.1], natV r.2)
def rows2 (C : List ((Nat × Nat) × Nat)) : List (List Nat × V) := C.map fun r => ([r.1.1, r.1.2], natV r.2)
def wOf (W : List (Nat × Nat)) (c : Nat) : Nat := (look W c).getD 1
def cutOf (C : List ((Nat × Nat) × Nat)) (a b : Nat) : Nat := (look C (a, b)).getD 0
structure StyOk (S : Sty) : Prop where
  sw : Asc (rowsW S.W)
  sc : Asc (rows2 S.C)
  sb : Asc (rows2 S.B)
  lw : S.W.length ≤ 100
  lc : S.C.length ≤ 100
  lb : S.B.length ≤ 100
  w3 : ∀ r ∈ S.W, 1 ≤ r.2 ∧ r.2 ≤ 3
  uw : ∀ r ∈ rowsW S.W, ∀ c ∈ r.1, c < 1114112
  uc : ∀ r ∈ rows2 S.C, ∀ c ∈ r.1, c < 1114112
  ub : ∀ r ∈ rows2 S.B, ∀ c ∈ r.1, c < 1114112
  cw : ∀ r ∈ S.C, r.2 < wOf S.W r.1.1
theorem look_rowsW (W : List (Nat × Nat)) (c : Nat) : look (rowsW W) [c] = (look W c).map natV :=
  look_map (f := fun c : Nat => [c]) (g := natV) (fun a b e => (List.cons.inj e).1) W c
theorem look_rows2 (C : List ((Nat × Nat) × Nat)) (a b : Nat) : look (rows2 C) [a, b] = (look C (a, b)).map natV :=
  look_map (f := fun k : Nat × Nat => [k.1, k.2]) (g := natV) (fun a b e => by
    have e1 := List.cons.inj e
    have e2 := List.cons.inj e1.2
    exact Prod.ext e1.1 e2.1) C (a, b)
theorem wOf_bd {S : Sty} (h : StyOk S) (c : Nat) : 1 ≤ wOf S.W c ∧ wOf S.W c ≤ 3 := by
  unfold wOf
  cases e : look S.W c with
  | none => exact ⟨Nat.le_refl _, by decide⟩
  | some w => exact h.w3 _ (look_mem e)
theorem cut_lt {S : Sty} (h : StyOk S) (a b : Nat) : cutOf S.C a b < wOf S.W a := by
  unfold cutOf
  cases e : look S.C (a, b) with
  | none => exact (wOf_bd h a).1
  | some w => exact h.cw _ (look_mem e)
/-- the width of the sign at k in a piece that ends ahead of j -/
def wAt (S : Sty) (zs : List Nat) (j k : Nat) : Nat := if k + 1 < j then wOf S.W (zs.getD k 0) - cutOf S.C (zs.getD k 0) (zs.getD (k + 1) 0) else wOf S.W (zs.getD k 0)
theorem wAt_bd {S : Sty} (h : StyOk S) (zs : List Nat) (j k : Nat) : 1 ≤ wAt S zs j k ∧ wAt S zs j k ≤ 3 := by
  unfold wAt
  have a := wOf_bd h (zs.getD k 0)
  have b := cut_lt h (zs.getD k 0) (zs.getD (k + 1) 0)
  by_cases c : k + 1 < j
  · rw [if_pos c]; omega
  · rw [if_neg c]; exact a
def pieceW (S : Sty) (zs : List Nat) (i j : Nat) : Nat := ((List.range' i (j - i)).map (wAt S zs j)).sum + if j < zs.length then 1 else 0
def pieceN (S : Sty) (zs : List Nat) (i j : Nat) : List Nat := (List.range' i (j - i)).flatMap (fun k => zs.getD k 0 :: List.replicate (wAt S zs j k - 1) 95) ++ if j < zs.length then [45] else []
theorem pieceN_len {S : Sty} (h : StyOk S) (zs : List Nat) (i j : Nat) : (pieceN S zs i j).length = pieceW S zs i j := by
  unfold pieceN pieceW
  rw [List.length_append]
  congr 1
  · induction (List.range' i (j - i)) with
    | nil => rfl
    | cons k r ih =>
      rw [List.flatMap_cons, List.length_append, ih, List.map_cons, List.sum_cons, List.length_cons, List.length_replicate]
      have := (wAt_bd h zs j k).1
      omega
  · by_cases c : j < zs.length
    · rw [if_pos c, if_pos c]; rfl
    · rw [if_neg c, if_neg c]; rfl
/-- what stands ahead of a place, as parts of a longer piece -/
def ahead (S : Sty) (zs : List Nat) : Nat → Int
  | 0 => 0
  | t + 1 => ahead S zs t + ((wOf S.W (zs.getD t 0) : Int) - (cutOf S.C (zs.getD t 0) (zs.getD (t + 1) 0) : Int))
theorem inner_sum {S : Sty} (h : StyOk S) (zs : List Nat) (i j : Nat) : ∀ n, i + n < j → ((((List.range' i n).map (wAt S zs j)).sum : Nat) : Int) = ahead S zs (i + n) - ahead S zs i
  | 0, _ => by rw [Nat.add_zero]; show (0 : Int) = _; omega
  | n + 1, hn => by
    have ih := inner_sum h zs i j n (by omega)
    rw [List.range'_1_concat, List.map_append, List.sum_append]
    have e : (wAt S zs j (i + n) : Int) = (wOf S.W (zs.getD (i + n) 0) : Int) - (cutOf S.C (zs.getD (i + n) 0) (zs.getD (i + n + 1) 0) : Int) := by
      unfold wAt
      rw [if_pos (by omega)]
      have := cut_lt h (zs.getD (i + n) 0) (zs.getD (i + n + 1) 0)
      omega
    have e2 : ahead S zs (i + (n + 1)) = ahead S zs (i + n) + ((wOf S.W (zs.getD (i + n) 0) : Int) - (cutOf S.C (zs.getD (i + n) 0) (zs.getD (i + n + 1) 0) : Int)) := rfl
    rw [e2, ← e]
    have e3 : (List.map (wAt S zs j) [i + n]).sum = wAt S zs j (i + n) := by simp
    rw [e3, Int.natCast_add, ih]
    omega
theorem pieceW_eq {S : Sty} (h : StyOk S) (zs : List Nat) {i j : Nat} (hij : i < j) : ((pieceW S zs i j : Nat) : Int) = ahead S zs (j - 1) - ahead S zs i + (wOf S.W (zs.getD (j - 1) 0) : Int) + (if j < zs.length then 1 else 0) := by
  unfold pieceW
  have e : j - i = (j - 1 - i) + 1 := by omega
  rw [e, List.range'_1_concat, List.map_append, List.sum_append]
  have e0 : i + (j - 1 - i) = j - 1 := by omega
  rw [e0]
  have e3 : (List.map (wAt S zs j) [j - 1]).sum = wAt S zs j (j - 1) := by simp
  have e4 : wAt S zs j (j - 1) = wOf S.W (zs.getD (j - 1) 0) := by
    unfold wAt; rw [if_neg (by omega)]
  have ih := inner_sum h zs i j (j - 1 - i) (by omega)
  rw [e0] at ih
  rw [e3, e4, Int.natCast_add, Int.natCast_add, ih]
  by_cases c : j < zs.length
  · rw [if_pos c, if_pos c]; rfl
  · rw [if_neg c, if_neg c]; rfl
/-- a piece between two partings, from both pieces beside and the whole -/
theorem pieceW_mid {S : Sty} (h : StyOk S) {zs : List Nat} {i j : Nat} (hij : i < j) (hj : j < zs.length) (hi : 0 < i) :
    ((pieceW S zs i zs.length : Nat) : Int) + ((pieceW S zs 0 j : Nat) : Int) - ((pieceW S zs 0 zs.length : Nat) : Int) = ((pieceW S zs i j : Nat) : Int) := by
  rw [pieceW_eq h zs (show i < zs.length by omega), pieceW_eq h zs (show 0 < j by omega), pieceW_eq h zs (show 0 < zs.length by omega), pieceW_eq h zs hij, if_neg (Nat.lt_irrefl _), if_pos hj]
  show _ + (_ - (0 : Int) + _ + _) - (_ - (0 : Int) + _ + _) = _
  omega
/-- the places at which a word can be parted, with their prices -/
def places (S : Sty) (zs : List Nat) : List (Nat × Nat) := (List.range' 2 (zs.length - 3)).filterMap fun k => (look S.B (zs.getD (k - 1) 0, zs.getD k 0)).map fun p => (k, p)
theorem places_bd {S : Sty} {zs : List Nat} {r : Nat × Nat} (h : r ∈ places S zs) : 2 ≤ r.1 ∧ r.1 + 1 < zs.length := by
  obtain ⟨k, hk, e⟩ := List.mem_filterMap.mp h
  rw [List.mem_range'_1] at hk
  cases el : look S.B (zs.getD (k - 1) 0, zs.getD k 0) with
  | none => rw [el] at e; cases e
  | some p =>
    rw [el] at e
    have e : (k, p) = r := Option.some.inj e
    subst e
    show 2 ≤ k ∧ k + 1 < zs.length
    omega
theorem places_asc (S : Sty) (zs : List Nat) : (places S zs).Pairwise fun p q => p.1 < q.1 := by
  unfold places
  refine List.Pairwise.filterMap _ ?_ (List.pairwise_lt_range' ..)
  intro a b hab p hp q hq
  cases ea : look S.B (zs.getD (a - 1) 0, zs.getD a 0) with
  | none => rw [ea] at hp; cases hp
  | some x =>
    cases eb : look S.B (zs.getD (b - 1) 0, zs.getD b 0) with
    | none => rw [eb] at hq; cases hq
    | some y =>
      rw [ea] at hp
      rw [eb] at hq
      have hp : (a, x) = p := Option.some.inj hp
      have hq : (b, y) = q := Option.some.inj hq
      subst hp hq
      exact hab
end Vf

set_option Elab.async false
set_option linter.all false
set_option maxRecDepth 100000
set_option maxHeartbeats 4000000
namespace Vf
open PySem PySem.Spec PyProof.Rows L2 TL
/-! ### styles as they stand; the program -/
def rowV (r : List Nat × V) : List V := r.1.map sgn ++ [r.2]
def RowsV (H : Hp) (v : V) (L : List (List Nat × V)) : Prop := ∃ (a : Addr) (vs : List V), v = .ref a ∧ H a = some (.tup vs) ∧ vs.length = L.length ∧ ∀ (i : Nat) (r : List Nat × V), L[i]? = some r → ∃ b : Addr, vs[i]? = some (.ref b) ∧ H b = some (.tup (rowV r))
def StyV (H : Hp) (v : V) (S : Sty) : Prop := ∃ (a : Addr) (wv cv bv pv : V), v = .ref a ∧ H a = some (.tup [.int S.m, .int S.dp, .int S.cl, wv, cv, bv, pv]) ∧ RowsV H wv (rowsW S.W) ∧ RowsV H cv (rows2 S.C) ∧ RowsV H bv (rows2 S.B)
theorem RowsV.mono {H H' : Hp} {v : V} {L : List (List Nat × V)} (h : RowsV H v L) (k : ∀ a xs, H a = some (.tup xs) → H' a = some (.tup xs)) : RowsV H' v L := by
  obtain ⟨a, vs, e, q, l, r⟩ := h
  exact ⟨a, vs, e, k _ _ q, l, fun i x hx => by
    obtain ⟨b, e1, q1⟩ := r i x hx
    exact ⟨b, e1, k _ _ q1⟩⟩
theorem StyV.mono {H H' : Hp} {v : V} {S : Sty} (h : StyV H v S) (k : ∀ a xs, H a = some (.tup xs) → H' a = some (.tup xs)) : StyV H' v S := by
  obtain ⟨a, wv, cv, bv, pv, e, q, h1, h2, h3⟩ := h
  exact ⟨a, wv, cv, bv, pv, e, k _ _ q, h1.mono k, h2.mono k, h3.mono k⟩
theorem same_tup {H H' : Hp} (h : Same H H') : ∀ a xs, H a = some (.tup xs) → H' a = some (.tup xs) := fun a xs e => h _ _ e
theorem DI.neT {d l a : Addr} {H : Hp} {xs : List V} (h : DI d l H) (e : H a = some (.tup xs)) : a ≠ d := by
  obtain ⟨_, _, i, b, s, c, _, h2⟩ := h
  intro z
  rw [z, h2] at e
  cases e
theorem kp_tup {d l : Addr} {H H' : Hp} (hD : DI d l H) (h : Kp d H H') : ∀ a xs, H a = some (.tup xs) → H' a = some (.tup xs) := fun a xs e => h _ _ (hD.neT e) e
theorem cut_last (l : List V) (x : V) : cutV (l ++ [x]) none (some (-1)) = l := by
  unfold cutV
  rw [HT.sIx_none]
  have e : HT.sIx (l ++ [x]).length (l ++ [x]).length (some (-1)) = l.length := by
    have e0 : ∀ n d : Nat, HT.sIx n d (some (-1)) = ((-1 : Int) + (n : Int)).toNat := fun n d => by
      unfold HT.sIx
      simp
    rw [e0, List.length_append]
    show ((-1 : Int) + ((l.length + 1 : Nat) : Int)).toNat = _
    omega
  rw [e, List.drop_zero, Nat.sub_zero, List.take_append_of_le_length (Nat.le_refl _), List.take_length]
theorem cut_part (l : List V) (x : V) : ¬ (HT.sIx (l ++ [x]).length 0 none = 0 ∧ HT.sIx (l ++ [x]).length (l ++ [x]).length (some (-1)) = (l ++ [x]).length) := by
  intro h
  have e : HT.sIx (l ++ [x]).length (l ++ [x]).length (some (-1)) = l.length := by
    have e0 : ∀ n d : Nat, HT.sIx n d (some (-1)) = ((-1 : Int) + (n : Int)).toNat := fun n d => by
      unfold HT.sIx
      simp
    rw [e0, List.length_append]
    show ((-1 : Int) + ((l.length + 1 : Nat) : Int)).toNat = _
    omega
  have h2 := h.2
  rw [e, List.length_append] at h2
  have h2 : l.length = l.length + 1 := h2
  omega
theorem sgn_str (k : List Nat) : k.map sgn = (k.map sg1).map V.str := by rw [List.map_map]; rfl
def dat (k : List Nat) : PyData := .tuple (k.map fun c => .str (sg1 c))
theorem eqvAll_key : ∀ a b : List Nat, PyData.eqvAll (a.map fun c => PyData.str (sg1 c)) (b.map fun c => .str (sg1 c)) = decide (a = b)
  | [], [] => by simp [PyData.eqvAll]
  | [], _ :: _ => by simp [PyData.eqvAll]
  | _ :: _, [] => by simp [PyData.eqvAll]
  | x :: xs, y :: ys => by
    have e1 : sg1 x = sg1 y ↔ x = y := ⟨fun z => by have := congrArg (fun t : Str => t.cps.toList) z; exact (List.cons.inj this).1, fun z => by rw [z]⟩
    simp only [List.map_cons, PyData.eqvAll, PyData.eqv]
    rw [eqvAll_key xs ys]
    by_cases e : x = y
    · subst e
      simp
    · have : (sg1 x == sg1 y) = false := beq_eq_false_iff_ne.mpr fun z => e (e1.mp z)
      rw [this]
      simp [e]
theorem eqv_key (a b : List Nat) : PyData.eqv (dat a) (dat b) = decide (a = b) := by
  show PyData.eqv (.tuple _) (.tuple _) = _
  simp only [PyData.eqv]
  exact eqvAll_key a b
theorem key_lay : ∀ {k : List Nat}, (∀ c ∈ k, c < 1114112) → PyData.canLayAll0 (k.map fun c => PyData.str (sg1 c)) = true
  | [], _ => rfl
  | c :: k, h => by
    show (PyData.strOk (sg1 c) && PyData.canLayAll0 (k.map fun c => PyData.str (sg1 c))) = true
    have e : PyData.strOk (sg1 c) = true := by
      unfold PyData.strOk sg1
      rw [List.all_toArray]
      exact List.all_eq_true.mpr fun x hx => decide_eq_true (by rw [List.mem_singleton.mp hx]; exact h c List.mem_cons_self)
    rw [e, key_lay fun z hz => h z (List.mem_cons_of_mem _ hz)]
    rfl
theorem key_depth : ∀ k : List Nat, PyData.depthAll (k.map fun c => PyData.str (sg1 c)) = 0
  | [] => rfl
  | c :: k => by
    show max 0 (PyData.depthAll (k.map fun c => PyData.str (sg1 c))) = 0
    rw [key_depth k]
    rfl
theorem shaped_key {k : List Nat} (h : ∀ c ∈ k, c < 1114112) : SeqAt.shaped (dat k) = true := by
  have h2 : PyData.depth (dat k) ≤ 64 := by
    show PyData.depthAll (k.map fun c => PyData.str (sg1 c)) + 1 ≤ 64
    rw [key_depth]
    decide
  show (PyData.canLay0 (dat k) && decide (PyData.depth (dat k) ≤ 64)) = true
  rw [Bool.and_eq_true]
  exact ⟨by unfold dat; simp only [PyData.canLay0]; exact key_lay h, decide_eq_true h2⟩
theorem dp_key {K : PySem.W.Frag} {H : Hp} {a : Addr} {k : List Nat} (e : H a = some (.tup (k.map sgn))) : Dp K H (.ref a) (dat k) := by
  refine .tup (SqT.of e) ?_
  clear e
  induction k with
  | nil => exact .nil
  | cons c r ih => exact .cons (.str (sg1 c)) ih
theorem hu0 {k : Nat} {A : Around} (r : Room k A) : A.units < cLine := by have := r.units; omega
theorem hu1 {k : Nat} {A : Around} (r : Room k A) : A.units + 1 < cLine := by have := r.units; omega
section
variable {P : Program} {w : World} {K : PySem.W.Frag} {mg : Str → Option Value} {base : Heap}
def spTold : Sp := fun vs H Q _ => ∃ (v o : V) (kb : Addr) (L : List (List Nat × V)) (key : List Nat), vs = [v, .ref kb, o] ∧ RowsV H v L ∧ Asc L ∧ L.length ≤ 1000 ∧ (∀ r ∈ L, ∀ c ∈ r.1, c < 1114112) ∧ (∀ c ∈ key, c < 1114112) ∧ H kb = some (.tup (key.map sgn)) ∧
  ∀ H', Same H H' → Q ((look L key).getD o) H'
theorem ok_told (T : Txt K mg) : FnOk P w K mg base CX0 1 T.a_told T.d_told ["rows", "key", "otherwise"] spTold := by
  refine T.D_told.F.ok sc_told (fun vs H Q E h => ?_) (fun cdv A outer s H vs Q E hr h => ?_)
  · obtain ⟨v, o, kb, L, key, rfl, _⟩ := h
    rfl
  · obtain ⟨v, o, kb, L, key, rfl, ⟨a, us, rfl, e, lu, hR⟩, hA, l1000, lk, k12, ek, q⟩ := h
    refine ⟨_, (pss_cons (ps_set (i := 3) sc_told.nd rfl (.inl rfl) pe_int)
      (pss_cons (ps_set (i := 4) sc_told.nd rfl (.inl rfl) (pe_callB call_len_seq (by rfl) T.n_len PySem.boot_len (pa_cons (pv 0) pa_nil)))
      (pss_cons (ps_while PassesOwn.never (pt_cmpR op_lt (pv 3) (pv 4) (nomark _)) (pss_cons (ps_set (i := 5) sc_told.nd rfl (.inl rfl) (pe_op op_fdivN (pe_op op_add (pv 3) (pv 4)) pe_int))
      (pss_one (ps_if (pt_cmpR (op_ltS (hu0 hr)) (pe_slice sl_tup (pe_ix ix_tup (pv 0) (pv 5) (fun _ _ => rfl)) po_none (po_some (pe_un un_neg pe_int))) (pv 1) (nomark _)) (pss_one (ps_set (i := 3) sc_told.nd rfl (.inl rfl) (pe_op op_add (pv 5) pe_int))) (pss_one (ps_set (i := 4) sc_told.nd rfl (.inl rfl) (pv 5)))))))
      (pss_cons (ps_if (PW.pt (pw_and (pt_cmpR op_lt (pv 3) (pe_callB call_len_seq (by rfl) T.n_len PySem.boot_len (pa_cons (pv 0) pa_nil)) (nomark _)) (pw_and1 (pt_cmpR (op_eqD (Room.units hr)) (pe_slice sl_tup (pe_ix ix_tup (pv 0) (pv 3) (fun _ _ => rfl)) po_none (po_some (pe_un un_neg pe_int))) (pv 1) (nomark _))))) (pss_one (ps_ret (pe_ix ix_tup (pe_ix ix_tup (pv 0) (pv 3) (fun _ _ => rfl)) (pe_un un_neg pe_int) (fun _ _ => rfl)))) pss_nil)
      (pss_one (ps_ret (pv 2))))))), ?_⟩
    refine ⟨_, rfl, a, us, rfl, .inr (SqT.of e), ?_⟩
    refine ⟨fun m σ' H' => Same H H' ∧ ∃ (lo hi : Nat) (x5 : Option V), m = hi - lo ∧ σ' = [some (.ref a), some (.ref kb), some o, some (.int (lo : Int)), some (.int (hi : Int)), x5] ∧ lo ≤ hi ∧ hi ≤ L.length ∧
      (∀ (i : Nat) r, i < lo → L[i]? = some r → lexN r.1 key = true) ∧ (∀ (i : Nat) r, hi ≤ i → L[i]? = some r → lexN r.1 key = false),
      ⟨L.length, Same.refl H, 0, L.length, none, rfl, by rw [lu]; rfl, Nat.zero_le _, Nat.le_refl _, fun i r h => absurd h (Nat.not_lt_zero _), fun i r h1 h2 => by
        have := (List.getElem?_eq_some_iff.mp h2).1
        omega⟩, fun m σ' H' hW => ?_⟩
    obtain ⟨k, lo, hi, x5, em, rfl, lh, hl, hlow, hhigh⟩ := hW
    refine ⟨_, rfl, _, rfl, _, _, rfl, rfl, _, rfl, ite2 (fun c => ?_) (fun c => ?_)⟩
    · have c := of_decide_eq_true c
      have clt : lo < hi := by omega
      have hm : (lo + hi) / 2 < L.length := by omega
      have gm : L[(lo + hi) / 2]? = some L[(lo + hi) / 2] := List.getElem?_eq_getElem hm
      obtain ⟨b, gb, eb⟩ := hR _ _ gm
      have em2 : ((lo : Int) + (hi : Int)).fdiv 2 = (((lo + hi) / 2 : Nat) : Int) := by
        rw [Int.fdiv_eq_ediv_of_nonneg _ (by decide)]
        omega
      refine ⟨fun σ'' H'' => Same H H'' ∧ ∃ (lo' hi' : Nat) (x5 : Option V), hi' - lo' < hi - lo ∧ σ'' = [some (.ref a), some (.ref kb), some o, some (.int (lo' : Int)), some (.int (hi' : Int)), x5] ∧ lo' ≤ hi' ∧ hi' ≤ L.length ∧
        (∀ (i : Nat) r, i < lo' → L[i]? = some r → lexN r.1 key = true) ∧ (∀ (i : Nat) r, hi' ≤ i → L[i]? = some r → lexN r.1 key = false), fun σ'' H'' hN => ?_, ?_⟩
      · obtain ⟨k2, lo', hi', x5', h1, h2, h3⟩ := hN
        exact ⟨hi' - lo', by omega, k2, lo', hi', x5', rfl, h2, h3⟩
      · refine ⟨_, rfl, _, rfl, _, _, rfl, rfl, _, _, rfl, rfl, ⟨by decide, by decide⟩, ?_⟩
        refine ⟨_, rfl, _, rfl, a, us, _, .ref b, rfl, rfl, SqT.of (k _ _ e), by rw [em2]; exact atI_nat gb, 1, rfl, -1, rfl, b, _, rfl, SqT.of (k _ _ eb), cut_part _ _, fun p np => ?_⟩
        have kp := same_upd (o := .tup (cutV (rowV L[(lo + hi) / 2]) none (some (-1)))) (Same.refl H') np
        refine ⟨_, rfl, p, kb, L[(lo + hi) / 2].1.map sg1, key.map sg1, rfl, rfl, SqT.of (by rw [upd_same, ← sgn_str]; exact congrArg (fun z => some (HO.tup z)) (cut_last _ _)), SqT.of (by rw [← sgn_str]; exact kp _ _ (k _ _ ek)), ?_⟩
        rw [lexS_map]
        refine ⟨_, rfl, ite2 (fun c2 => ?_) (fun c2 => ?_)⟩
        · refine ⟨_, rfl, _, _, rfl, rfl, k.trans kp, (lo + hi) / 2 + 1, hi, some (V.int (((lo : Int) + (hi : Int)).fdiv 2)), by omega, by
            show [some (V.ref a), some (V.ref kb), some o, some (V.int (((lo : Int) + (hi : Int)).fdiv 2 + 1)), some (V.int (hi : Int)), some (V.int (((lo : Int) + (hi : Int)).fdiv 2))] = _
            rw [em2]; rfl, by omega, hl, fun i r hi2 hr2 => ?_, hhigh⟩
          by_cases z : i = (lo + hi) / 2
          · rw [z, gm] at hr2
            have := Option.some.inj hr2
            rw [← this]; exact c2
          · exact lexN_trans (hA.lt hr2 gm (by omega)) c2
        · have c3 : lexN L[(lo + hi) / 2].1 key = false := by
            cases h : lexN L[(lo + hi) / 2].1 key with
            | true => exact absurd h c2
            | false => rfl
          refine ⟨_, rfl, k.trans kp, lo, (lo + hi) / 2, some (V.int (((lo : Int) + (hi : Int)).fdiv 2)), by omega, by
            show [some (V.ref a), some (V.ref kb), some o, some (V.int (lo : Int)), some (V.int (((lo : Int) + (hi : Int)).fdiv 2)), some (V.int (((lo : Int) + (hi : Int)).fdiv 2))] = _
            rw [em2], by omega, by omega, hlow, fun i r hi2 hr2 => ?_⟩
          by_cases z : i = (lo + hi) / 2
          · rw [z, gm] at hr2
            have := Option.some.inj hr2
            rw [← this]; exact c3
          · have l1 := hA.lt gm hr2 (by omega)
            cases h : lexN r.1 key with
            | true => rw [lexN_trans l1 h] at c3; cases c3
            | false => rfl
    · have ceq : lo = hi := by
        have : ¬ ((lo : Int) < (hi : Int)) := fun z => c (decide_eq_true z)
        omega
      subst ceq
      have hx : ∀ (i : Nat) r, lo < i → L[i]? = some r → r.1 ≠ key := fun i r hi2 hr2 z => by
        have h0 : lo < L.length := by have := (List.getElem?_eq_some_iff.mp hr2).1; omega
        have g0 : L[lo]? = some L[lo] := List.getElem?_eq_getElem h0
        have l1 := hA.lt g0 hr2 hi2
        have l2 := hhigh lo _ (Nat.le_refl _) g0
        rw [z, l2] at l1; cases l1
      refine ⟨_, rfl, _, rfl, a, us, rfl, .inr (SqT.of (k _ _ e)), _, _, rfl, rfl, decide (lo < L.length), ?_, ?_⟩
      · rw [lu]
        by_cases z : lo < L.length
        · rw [decide_eq_true z]; exact bl_of (decide_eq_true (show (lo : Int) < (L.length : Int) by omega))
        · rw [decide_eq_false z]; exact bl_of (decide_eq_false (show ¬ (lo : Int) < (L.length : Int) by omega))
      by_cases h0 : lo < L.length
      · rw [decide_eq_true h0]
        have g0 : L[lo]? = some L[lo] := List.getElem?_eq_getElem h0
        obtain ⟨b, gb, eb⟩ := hR _ _ g0
        refine ⟨_, rfl, _, rfl, a, us, _, .ref b, rfl, rfl, SqT.of (k _ _ e), atI_nat gb, 1, rfl, -1, rfl, b, _, rfl, SqT.of (k _ _ eb), cut_part _ _, fun p np => ?_⟩
        have kp := same_upd (o := .tup (cutV (rowV L[lo]) none (some (-1)))) (Same.refl H') np
        have ep : upd H' p (.tup (cutV (rowV L[lo]) none (some (-1)))) p = some (.tup (L[lo].1.map sgn)) := by rw [upd_same]; exact congrArg (fun z => some (HO.tup z)) (cut_last _ _)
        refine ⟨_, rfl, dat L[lo].1, dat key, dp_key ep, dp_key (kp _ _ (k _ _ ek)), shaped_key (lk _ (List.getElem_mem h0)), shaped_key k12, ?_⟩
        rw [eqv_key]
        by_cases z : L[lo].1 = key
        · refine ⟨true, by rw [decide_eq_true z], ?_⟩
          have ek2 : look L key = some L[lo].2 := by
            rw [← z]
            exact look_at g0 fun j r hj hr2 => fun y => lexN_ne (hlow j r hj hr2) (y.trans z)
          have qq := q _ (k.trans kp)
          rw [ek2] at qq
          exact ⟨_, rfl, _, rfl, a, us, _, .ref b, rfl, rfl, SqT.of (kp _ _ (k _ _ e)), atI_nat gb, 1, rfl, b, _, _, _, rfl, rfl, SqT.of (kp _ _ (k _ _ eb)), atI_last _ _, qq⟩
        · refine ⟨false, by rw [decide_eq_false z], ?_⟩
          have ek2 : look L key = none := look_none fun r hr2 => by
            obtain ⟨i, hi2⟩ := List.mem_iff_getElem?.mp hr2
            rcases Nat.lt_trichotomy i lo with y | y | y
            · exact lexN_ne (hlow i r y hi2)
            · rw [y, g0] at hi2
              have := Option.some.inj hi2
              rw [← this]; exact z
            · exact hx i r y hi2
          have qq := q _ (k.trans kp)
          rw [ek2] at qq
          exact ⟨_, rfl, qq⟩
      · rw [decide_eq_false h0]
        have ek2 : look L key = none := look_none fun r hr2 => by
          obtain ⟨i, hi2⟩ := List.mem_iff_getElem?.mp hr2
          have := (List.getElem?_eq_some_iff.mp hi2).1
          exact lexN_ne (hlow i r (by omega) hi2)
        have qq := q _ k
        rw [ek2] at qq
        exact ⟨_, rfl, qq⟩
end
end Vf

set_option Elab.async false
set_option linter.all false
set_option maxRecDepth 100000
set_option maxHeartbeats 4000000
namespace Vf
open PySem PySem.Spec PyProof.Rows L2 TL
def prV : Option Nat → V
  | none => .non
  | some p => natV p
theorem look_w (W : List (Nat × Nat)) (c : Nat) : (look (rowsW W) [c]).getD (.int 1) = natV (wOf W c) := by
  rw [look_rowsW]
  unfold wOf
  cases look W c <;> rfl
theorem look_c (C : List ((Nat × Nat) × Nat)) (a b : Nat) : (look (rows2 C) [a, b]).getD (.int 0) = natV (cutOf C a b) := by
  rw [look_rows2]
  unfold cutOf
  cases look C (a, b) <;> rfl
theorem look_b (C : List ((Nat × Nat) × Nat)) (a b : Nat) : (look (rows2 C) [a, b]).getD .non = prV (look C (a, b)) := by
  rw [look_rows2]
  cases look C (a, b) <;> rfl
theorem len_rW (W : List (Nat × Nat)) : (rowsW W).length = W.length := List.length_map ..
theorem len_r2 (W : List ((Nat × Nat) × Nat)) : (rows2 W).length = W.length := List.length_map ..
section
variable {P : Program} {w : World} {K : PySem.W.Frag} {mg : Str → Option Value} {base : Heap}
def spWidthOf : Sp := fun vs H Q _ => ∃ (v : V) (S : Sty) (c : Nat), vs = [v, sgn c] ∧ StyV H v S ∧ StyOk S ∧ c < 1114112 ∧ ∀ H', Same H H' → Q (natV (wOf S.W c)) H'
def spCutOf : Sp := fun vs H Q _ => ∃ (v : V) (S : Sty) (c d : Nat), vs = [v, sgn c, sgn d] ∧ StyV H v S ∧ StyOk S ∧ c < 1114112 ∧ d < 1114112 ∧ ∀ H', Same H H' → Q (natV (cutOf S.C c d)) H'
def spPriceOf : Sp := fun vs H Q _ => ∃ (v : V) (S : Sty) (c d : Nat), vs = [v, sgn c, sgn d] ∧ StyV H v S ∧ StyOk S ∧ c < 1114112 ∧ d < 1114112 ∧ ∀ H', Same H H' → Q (prV (look S.B (c, d))) H'
theorem ok_width_of (T : Txt K mg) : FnOk P w K mg base CX0 2 T.a_width_of T.d_width_of ["style", "sign"] spWidthOf := by
  have G_told : FnOk P w K mg base CX0 1 T.a_told T.d_told ["rows", "key", "otherwise"] spTold := ok_told T
  refine T.D_width_of.F.ok sc_width_of (fun vs H Q E h => ?_) (fun cdv A outer s H vs Q E hr h => ?_)
  · obtain ⟨v, S, c, rfl, _⟩ := h
    rfl
  · obtain ⟨v, S, c, rfl, ⟨a, wv, cv, bv, pv_, rfl, e, h1, h2, h3⟩, ok, hc, q⟩ := h
    refine ⟨_, (pss_one (ps_ret (pe_call G_told (hr.mono (by decide)) (by rfl) T.D_told.G T.D_told.F.kp T.D_told.B .nil pass0 (pa_cons (pe_ix ix_tup (pv 0) pe_int (fun _ _ => rfl)) (pa_cons (pe_tup (pa_cons (pv 1) pa_nil)) (pa_cons pe_int pa_nil)))))), ?_⟩
    refine ⟨_, rfl, a, _, _, wv, rfl, rfl, SqT.of e, rfl, _, rfl, Nat.le_of_lt (lt_s (by show _ < 100000; simp)), fun p np => ?_⟩
    have kp := same_upd (o := .tup [sgn c]) (Same.refl H) np
    refine ⟨wv, .int 1, p, rowsW S.W, [c], rfl, h1.mono (same_tup kp), ok.sw, by rw [len_rW]; have := ok.lw; omega, ok.uw, fun x hx => by rw [List.mem_singleton.mp hx]; exact hc, upd_same, fun H' k => ?_⟩
    rw [look_w]
    exact q _ (kp.trans k)
theorem ok_cut_of (T : Txt K mg) : FnOk P w K mg base CX0 2 T.a_cut_of T.d_cut_of ["style", "sign", "next_sign"] spCutOf := by
  have G_told : FnOk P w K mg base CX0 1 T.a_told T.d_told ["rows", "key", "otherwise"] spTold := ok_told T
  refine T.D_cut_of.F.ok sc_cut_of (fun vs H Q E h => ?_) (fun cdv A outer s H vs Q E hr h => ?_)
  · obtain ⟨v, S, c, d, rfl, _⟩ := h
    rfl
  · obtain ⟨v, S, c, d, rfl, ⟨a, wv, cv, bv, pv_, rfl, e, h1, h2, h3⟩, ok, hc, hd, q⟩ := h
    refine ⟨_, (pss_one (ps_ret (pe_call G_told (hr.mono (by decide)) (by rfl) T.D_told.G T.D_told.F.kp T.D_told.B .nil pass0 (pa_cons (pe_ix ix_tup (pv 0) pe_int (fun _ _ => rfl)) (pa_cons (pe_tup (pa_cons (pv 1) (pa_cons (pv 2) pa_nil))) (pa_cons pe_int pa_nil)))))), ?_⟩
    refine ⟨_, rfl, a, _, _, cv, rfl, rfl, SqT.of e, rfl, _, rfl, _, rfl, Nat.le_of_lt (lt_s (by show _ < 100000; simp)), fun p np => ?_⟩
    have kp := same_upd (o := .tup [sgn c, sgn d]) (Same.refl H) np
    refine ⟨cv, .int 0, p, rows2 S.C, [c, d], rfl, h2.mono (same_tup kp), ok.sc, by rw [len_r2]; have := ok.lc; omega, ok.uc, fun x hx => by
      rcases List.mem_cons.mp hx with z | z
      · rw [z]; exact hc
      · rw [List.mem_singleton.mp z]; exact hd, upd_same, fun H' k => ?_⟩
    rw [look_c]
    exact q _ (kp.trans k)
theorem ok_break_price (T : Txt K mg) : FnOk P w K mg base CX0 2 T.a_break_price T.d_break_price ["style", "sign", "next_sign"] spPriceOf := by
  have G_told : FnOk P w K mg base CX0 1 T.a_told T.d_told ["rows", "key", "otherwise"] spTold := ok_told T
  refine T.D_break_price.F.ok sc_break_price (fun vs H Q E h => ?_) (fun cdv A outer s H vs Q E hr h => ?_)
  · obtain ⟨v, S, c, d, rfl, _⟩ := h
    rfl
  · obtain ⟨v, S, c, d, rfl, ⟨a, wv, cv, bv, pv_, rfl, e, h1, h2, h3⟩, ok, hc, hd, q⟩ := h
    refine ⟨_, (pss_one (ps_ret (pe_call G_told (hr.mono (by decide)) (by rfl) T.D_told.G T.D_told.F.kp T.D_told.B .nil pass0 (pa_cons (pe_ix ix_tup (pv 0) pe_int (fun _ _ => rfl)) (pa_cons (pe_tup (pa_cons (pv 1) (pa_cons (pv 2) pa_nil))) (pa_cons pe_non pa_nil)))))), ?_⟩
    refine ⟨_, rfl, a, _, _, bv, rfl, rfl, SqT.of e, rfl, _, rfl, _, rfl, Nat.le_of_lt (lt_s (by show _ < 100000; simp)), fun p np => ?_⟩
    have kp := same_upd (o := .tup [sgn c, sgn d]) (Same.refl H) np
    refine ⟨bv, .non, p, rows2 S.B, [c, d], rfl, h3.mono (same_tup kp), ok.sb, by rw [len_r2]; have := ok.lb; omega, ok.ub, fun x hx => by
      rcases List.mem_cons.mp hx with z | z
      · rw [z]; exact hc
      · rw [List.mem_singleton.mp z]; exact hd, upd_same, fun H' k => ?_⟩
    rw [look_b]
    exact q _ (kp.trans k)
theorem bT {p : Prop} [Decidable p] (h : p) : V.bl (decide p) = V.bl true := by rw [decide_eq_true h]
theorem bF {p : Prop} [Decidable p] (h : ¬ p) : V.bl (decide p) = V.bl false := by rw [decide_eq_false h]
/-- a word -/
structure WdOk (zs : List Nat) : Prop where
  len : zs.length ≤ 16
  ok : ∀ c ∈ zs, c < 1114112
  nf : ∀ c ∈ zs, c ≠ 95
theorem WdOk.at {zs : List Nat} (h : WdOk zs) {k : Nat} (hk : k < zs.length) : (mkS zs).cps.toList[k]? = some (zs.getD k 0) ∧ zs.getD k 0 < 1114112 := by
  have e : zs[k]? = some (zs.getD k 0) := by rw [List.getD_eq_getElem?_getD, List.getElem?_eq_getElem hk]; rfl
  exact ⟨by rw [mkS_cps]; exact e, h.ok _ (List.mem_of_getElem? e)⟩
def spWidthAt : Sp := fun vs H Q _ => ∃ (v : V) (S : Sty) (zs : List Nat) (k j : Nat), vs = [v, sV zs, .int (k : Int), .int (j : Int)] ∧ StyV H v S ∧ StyOk S ∧ WdOk zs ∧ k < j ∧ j ≤ zs.length ∧ ∀ H', Same H H' → Q (natV (wAt S zs j k)) H'
theorem ok_width_at (T : Txt K mg) : FnOk P w K mg base CX0 3 T.a_width_at T.d_width_at ["style", "word", "at", "behind"] spWidthAt := by
  have G_width_of : FnOk P w K mg base CX0 2 T.a_width_of T.d_width_of ["style", "sign"] spWidthOf := ok_width_of T
  have G_cut_of : FnOk P w K mg base CX0 2 T.a_cut_of T.d_cut_of ["style", "sign", "next_sign"] spCutOf := ok_cut_of T
  refine T.D_width_at.F.ok sc_width_at (fun vs H Q E h => ?_) (fun cdv A outer s H vs Q E hr h => ?_)
  · obtain ⟨v, S, zs, k, j, rfl, _⟩ := h
    rfl
  · obtain ⟨v, S, zs, k, j, rfl, hv, ok, wd, hk, hj, q⟩ := h
    refine ⟨_, (pss_cons (ps_if (pt_cmpR op_lt (pe_op op_add (pv 2) pe_int) (pv 3) (nomark _)) (pss_one (ps_ret (pe_op op_sub (pe_call G_width_of (hr.mono (by decide)) (by rfl) T.D_width_of.G T.D_width_of.F.kp T.D_width_of.B .nil pass0 (pa_cons (pv 0) (pa_cons (pe_ix ix_str (pv 1) (pv 2) (fun _ _ => rfl)) pa_nil))) (pe_call G_cut_of (hr.mono (by decide)) (by rfl) T.D_cut_of.G T.D_cut_of.F.kp T.D_cut_of.B .nil pass0 (pa_cons (pv 0) (pa_cons (pe_ix ix_str (pv 1) (pv 2) (fun _ _ => rfl)) (pa_cons (pe_ix ix_str (pv 1) (pe_op op_add (pv 2) pe_int) (fun _ _ => rfl)) pa_nil))))))) pss_nil)
      (pss_one (ps_ret (pe_call G_width_of (hr.mono (by decide)) (by rfl) T.D_width_of.G T.D_width_of.F.kp T.D_width_of.B .nil pass0 (pa_cons (pv 0) (pa_cons (pe_ix ix_str (pv 1) (pv 2) (fun _ _ => rfl)) pa_nil)))))), ?_⟩
    have hb : (mkS zs).length ≤ sizeLine := by rw [mkS_len]; exact big_ok (by have := wd.len; omega)
    have g0 := wd.at (show k < zs.length by omega)
    refine ⟨_, rfl, _, _, rfl, rfl, _, rfl, _, _, rfl, rfl, _, rfl, ite2 (fun c => ?_) (fun c => ?_)⟩
    · have c := of_decide_eq_true c
      have c2 : k + 1 < j := by omega
      have g1 := wd.at (show k + 1 < zs.length by omega)
      refine ⟨_, rfl, _, rfl, _, rfl, mkS zs, (k : Int), zs.getD k 0, rfl, rfl, hb, atI_nat g0.1, v, S, _, rfl, hv, ok, g0.2, fun H1 k1 => ?_⟩
      refine ⟨_, rfl, _, rfl, _, rfl, mkS zs, (k : Int), zs.getD k 0, rfl, rfl, hb, atI_nat g0.1, _, rfl, _, rfl, _, _, rfl, rfl, mkS zs, (k : Int) + 1, zs.getD (k + 1) 0, rfl, rfl, hb, atI_nat (j := k + 1) g1.1, v, S, _, _, rfl, hv.mono (same_tup k1), ok, g0.2, g1.2, fun H2 k2 => ?_⟩
      refine ⟨_, _, rfl, rfl, ?_⟩
      have e : (wOf S.W (zs.getD k 0) : Int) - (cutOf S.C (zs.getD k 0) (zs.getD (k + 1) 0) : Int) = ((wAt S zs j k : Nat) : Int) := by
        unfold wAt
        rw [if_pos c2]
        have := cut_lt ok (zs.getD k 0) (zs.getD (k + 1) 0)
        omega
      show Q (V.int ((wOf S.W (zs.getD k 0) : Int) - (cutOf S.C (zs.getD k 0) (zs.getD (k + 1) 0) : Int))) H2
      rw [e]
      exact q _ (k1.trans k2)
    · have c2 : ¬ k + 1 < j := fun z => c (decide_eq_true (by omega))
      refine ⟨_, rfl, _, rfl, _, rfl, mkS zs, (k : Int), zs.getD k 0, rfl, rfl, hb, atI_nat g0.1, v, S, _, rfl, hv, ok, g0.2, fun H1 k1 => ?_⟩
      have e : wOf S.W (zs.getD k 0) = wAt S zs j k := by
        unfold wAt
        rw [if_neg c2]
      rw [e]
      exact q _ k1
def spPieceW : Sp := fun vs H Q _ => ∃ (v : V) (S : Sty) (zs : List Nat) (i j : Nat), vs = [v, sV zs, .int (i : Int), .int (j : Int)] ∧ StyV H v S ∧ StyOk S ∧ WdOk zs ∧ i ≤ j ∧ j ≤ zs.length ∧ ∀ H', Same H H' → Q (natV (pieceW S zs i j)) H'
theorem ok_u_piece_width (T : Txt K mg) : FnOk P w K mg base CX0 4 T.a_u_piece_width T.d_u_piece_width ["style", "word", "first", "behind"] spPieceW := by
  have G_width_at : FnOk P w K mg base CX0 3 T.a_width_at T.d_width_at ["style", "word", "at", "behind"] spWidthAt := ok_width_at T
  refine T.D_u_piece_width.F.ok sc_u_piece_width (fun vs H Q E h => ?_) (fun cdv A outer s H vs Q E hr h => ?_)
  · obtain ⟨v, S, zs, k, j, rfl, _⟩ := h
    rfl
  · obtain ⟨v, S, zs, i, j, rfl, hv, ok, wd, hk, hj, q⟩ := h
    refine ⟨_, (pss_cons (ps_set (i := 4) sc_u_piece_width.nd rfl (.inl rfl) (pe_callB (cr_sum (by rfl)) (by rfl) T.n_sum (by decide +kernel) (pa_cons (pe_lc (own := [("at", 5)]) (g := gName 5) (tt := tYes) rfl sc_u_piece_width.nd (pi_range2 (by rfl) T.n_range (pa_cons (pv 2) (pa_cons (pv 3) pa_nil))) (blkOk_by (own := [("at", 5)]) (N := ["style", "word", "first", "behind", "width", "at"]) (sc := (defScope s_u_piece_width)) (by decide +kernel)) (fun _ _ _ _ _ => (pg_name (i := 5) sc_u_piece_width.nd rfl (.inl rfl))) (fun _ _ _ _ _ => pts_nil) (fun _ _ _ _ _ => (pe_call G_width_at (hr.mono (by decide)) (by rfl) T.D_width_at.G T.D_width_at.F.kp T.D_width_at.B .nil pass0 (pa_cons (pv 0) (pa_cons (pv 1) (pa_cons (pv 5) (pa_cons (pv 3) pa_nil))))))) pa_nil)))
      (pss_one (ps_ret (pe_ifExp (pt_cmpR op_lt (pv 3) (pe_callB call_len_str (by rfl) T.n_len PySem.boot_len (pa_cons (pv 1) pa_nil)) (nomark _)) (pe_op op_add (pv 4) pe_int) (pv 4))))), ?_⟩
    have hb : (mkS zs).length ≤ sizeLine := by rw [mkS_len]; exact big_ok (by have := wd.len; omega)
    have hl := wd.len
    refine ⟨_, rfl, _, rfl, i, j, rfl, ⟨by omega, by omega, by omega, by omega⟩, fun D nD => ?_⟩
    have en : ((j : Int) - (i : Int)).toNat = j - i := by omega
    rw [en]
    refine lc_it walk_range (fun n H' => Same H H' ∧ H' D = some (.lst (((List.range' i n).map (wAt S zs j)).map natV))) ⟨same_upd (Same.refl H) nD, upd_same⟩ (fun _ _ _ _ => trivial) ?_ ?_
    · rintro n x H' H'' hn ⟨k1, e1⟩ ⟨rfl, rfl⟩
      refine ⟨rfl, _, rfl, _, rfl, _, rfl, _, rfl, v, S, zs, i + n, j, rfl, hv.mono (same_tup k1), ok, wd, by omega, hj, fun H2 k2 => ?_⟩
      refine ⟨_, k2 _ _ e1, ?_, same_mut (k1.trans k2) nD, ?_⟩
      · rw [List.length_map, List.length_map, List.length_range']; exact lt_s (by omega)
      · rw [upd_same, List.range'_1_concat, List.map_append, List.map_append]; rfl
    · rintro H' ⟨k1, e1⟩
      refine ⟨D, ((List.range' i (j - i)).map (wAt S zs j)).map (fun x : Nat => (x : Int)), rfl, SqL.of (by rw [e1]; simp only [List.map_map]; rfl), ?_⟩
      have es : (((List.range' i (j - i)).map (wAt S zs j)).map (fun x : Nat => (x : Int))).sum = ((((List.range' i (j - i)).map (wAt S zs j)).sum : Nat) : Int) := by
        generalize (List.range' i (j - i)).map (wAt S zs j) = l
        induction l with
        | nil => rfl
        | cons a r ih => rw [List.map_cons, List.sum_cons, List.sum_cons, ih, Int.natCast_add]
      rw [es]
      refine ⟨_, rfl, _, rfl, mkS zs, rfl, hb, _, _, rfl, rfl, _, rfl, ite2 (fun c => ?_) (fun c => ?_)⟩
      · have c := of_decide_eq_true c
        rw [mkS_len] at c
        have e : pieceW S zs i j = ((List.range' i (j - i)).map (wAt S zs j)).sum + 1 := by
          unfold pieceW
          rw [if_pos (by omega)]
        rw [e] at q
        exact ⟨_, rfl, _, _, rfl, rfl, q _ k1⟩
      · have e : pieceW S zs i j = ((List.range' i (j - i)).map (wAt S zs j)).sum := by
          unfold pieceW
          rw [if_neg fun z => c (decide_eq_true (by rw [mkS_len]; omega))]
          rfl
        rw [e] at q
        exact ⟨_, rfl, q _ k1⟩
end
end Vf

set_option Elab.async false
set_option linter.all false
set_option maxRecDepth 100000
set_option maxHeartbeats 4000000
namespace Vf
open PySem PySem.Spec PyProof.Rows L2 TL
/-! ### shapes -/
def RowAt (H : Hp) (S : Sty) (zs : List Nat) (x : V) (r : Nat × Nat) : Prop := ∃ b, x = .ref b ∧ H b = some (.tup [natV (pieceW S zs 0 r.1), natV (pieceW S zs r.1 zs.length), natV r.2])
def PartL (H : Hp) (S : Sty) (zs : List Nat) (vs : List V) (rs : List (Nat × Nat)) : Prop := vs.length = rs.length ∧ ∀ (i : Nat) (r : Nat × Nat), rs[i]? = some r → ∃ x, vs[i]? = some x ∧ RowAt H S zs x r
theorem PartL.same {H H' : Hp} {S : Sty} {zs : List Nat} {vs : List V} {rs : List (Nat × Nat)} (h : PartL H S zs vs rs) (k : ∀ a xs, H a = some (.tup xs) → H' a = some (.tup xs)) : PartL H' S zs vs rs := ⟨h.1, fun i r e => by
  obtain ⟨x, e1, b, e2, e3⟩ := h.2 i r e
  exact ⟨x, e1, b, e2, k _ _ e3⟩⟩
theorem PartL.snoc {H : Hp} {S : Sty} {zs : List Nat} {vs : List V} {rs : List (Nat × Nat)} {x : V} {r : Nat × Nat} (h : PartL H S zs vs rs) (hx : RowAt H S zs x r) : PartL H S zs (vs ++ [x]) (rs ++ [r]) := by
  refine ⟨by rw [List.length_append, List.length_append, h.1]; rfl, fun i q e => ?_⟩
  by_cases hi : i < rs.length
  · rw [List.getElem?_append_left hi] at e
    obtain ⟨y, e1, e2⟩ := h.2 i q e
    exact ⟨y, by rw [List.getElem?_append_left (by rw [h.1]; exact hi)]; exact e1, e2⟩
  · rw [List.getElem?_append_right (by omega)] at e
    have e0 : i - rs.length = 0 := by
      have := (List.getElem?_eq_some_iff.mp e).1
      simp at this
      exact this
    rw [e0] at e
    have e : r = q := Option.some.inj e
    subst e
    exact ⟨x, by rw [List.getElem?_append_right (by rw [h.1]; omega), h.1, e0]; rfl, hx⟩
def ShapeV (H : Hp) (v : V) (S : Sty) (zs : List Nat) : Prop := ∃ (a pa : Addr) (vs : List V), v = .ref a ∧ H a = some (.tup [natV (pieceW S zs 0 zs.length), .ref pa]) ∧ H pa = some (.tup vs) ∧ PartL H S zs vs (places S zs)
theorem ShapeV.mono {H H' : Hp} {v : V} {S : Sty} {zs : List Nat} (h : ShapeV H v S zs) (k : ∀ a xs, H a = some (.tup xs) → H' a = some (.tup xs)) : ShapeV H' v S zs := by
  obtain ⟨a, pa, vs, e, h1, h2, h3⟩ := h
  exact ⟨a, pa, vs, e, k _ _ h1, k _ _ h2, h3.same k⟩
def plN (S : Sty) (zs : List Nat) (n : Nat) : List (Nat × Nat) := (List.range' 2 n).filterMap fun k => (look S.B (zs.getD (k - 1) 0, zs.getD k 0)).map fun p => (k, p)
theorem plN_succ (S : Sty) (zs : List Nat) (n : Nat) : plN S zs (n + 1) = plN S zs n ++ ((look S.B (zs.getD (n + 1) 0, zs.getD (n + 2) 0)).map fun p => (n + 2, p)).toList := by
  unfold plN
  rw [List.range'_1_concat, List.filterMap_append]
  congr 1
  have e1 : 2 + n - 1 = n + 1 := by omega
  have e2 : 2 + n = n + 2 := by omega
  rw [e2]
  show List.filterMap _ [n + 2] = _
  cases h : look S.B (zs.getD (n + 1) 0, zs.getD (n + 2) 0) with
  | none => rw [List.filterMap_cons_none (by show Option.map _ (look S.B (zs.getD (n + 1) 0, zs.getD (n + 2) 0)) = none; rw [h]; rfl)]; rfl
  | some p => rw [List.filterMap_cons_some (b := (n + 2, p)) (by show Option.map _ (look S.B (zs.getD (n + 1) 0, zs.getD (n + 2) 0)) = _; rw [h]; rfl)]; rfl
def ends (S : Sty) (zs : List Nat) : List Nat := 0 :: ((places S zs).map (·.1) ++ [zs.length])
section
variable {P : Program} {w : World} {K : PySem.W.Frag} {mg : Str → Option Value} {base : Heap}
theorem places_look {S : Sty} {zs : List Nat} {r : Nat × Nat} (h : r ∈ places S zs) : look S.B (zs.getD (r.1 - 1) 0, zs.getD r.1 0) = some r.2 := by
  unfold places at h
  obtain ⟨k, hk, e⟩ := List.mem_filterMap.mp h
  cases hl : look S.B (zs.getD (k - 1) 0, zs.getD k 0) with
  | none => rw [hl] at e; cases e
  | some p =>
    rw [hl] at e
    have := Option.some.inj e
    subst this
    exact hl
theorem places_len (S : Sty) (zs : List Nat) : (places S zs).length ≤ zs.length := by
  unfold places
  have h1 := List.length_filterMap_le (fun k => (look S.B (zs.getD (k - 1) 0, zs.getD k 0)).map fun p => (k, p)) (List.range' 2 (zs.length - 3))
  rw [List.length_range'] at h1
  omega
theorem places_plN (S : Sty) (zs : List Nat) : places S zs = plN S zs (zs.length - 3) := rfl
def spPlacesOf : Sp := fun vs H Q _ => ∃ (v : V) (S : Sty) (zs : List Nat), vs = [v, sV zs] ∧ StyV H v S ∧ StyOk S ∧ WdOk zs ∧ ∀ H' D, Same H H' → H D = none → H' D = some (.lst ((places S zs).map fun r : Nat × Nat => natV r.1)) → Q (.ref D) H'
theorem ok_parting_places (T : Txt K mg) : FnOk P w K mg base CX0 3 T.a_parting_places T.d_parting_places ["style", "word"] spPlacesOf := by
  have G_break_price : FnOk P w K mg base CX0 2 T.a_break_price T.d_break_price ["style", "sign", "next_sign"] spPriceOf := ok_break_price T
  refine T.D_parting_places.F.ok sc_parting_places (fun vs H Q E h => ?_) (fun cdv A outer s H vs Q E hr h => ?_)
  · obtain ⟨v, S, zs, rfl, _⟩ := h
    rfl
  · obtain ⟨v, S, zs, rfl, hv, ok, wd, q⟩ := h
    refine ⟨_, (pss_one (ps_ret (pe_lc (own := [("at", 2)]) (g := gName 2) rfl sc_parting_places.nd (pi_range2 (by rfl) T.n_range (pa_cons pe_int (pa_cons (pe_op op_sub (pe_callB call_len_str (by rfl) T.n_len PySem.boot_len (pa_cons (pv 1) pa_nil)) pe_int) pa_nil))) (blkOk_by (own := [("at", 2)]) (N := ["style", "word", "at"]) (sc := (defScope s_parting_places)) (by decide +kernel)) (fun _ _ _ _ _ => (pg_name (i := 2) sc_parting_places.nd rfl (.inl rfl))) (fun _ _ _ _ _ => (pts_one (pt_cmpR op_notN (pe_call G_break_price (hr.mono (by decide)) (by rfl) T.D_break_price.G T.D_break_price.F.kp T.D_break_price.B .nil pass0 (pa_cons (pv 0) (pa_cons (pe_ix ix_str (pv 1) (pe_op op_sub (pv 2) pe_int) (fun _ _ => rfl)) (pa_cons (pe_ix ix_str (pv 1) (pv 2) (fun _ _ => rfl)) pa_nil)))) pe_non (nomark _)))) (fun _ _ _ _ _ => (pv 2))))), ?_⟩
    have hb : (mkS zs).length ≤ sizeLine := by rw [mkS_len]; exact big_ok (by have := wd.len; omega)
    have hl := wd.len
    refine ⟨_, rfl, mkS zs, rfl, hb, _, _, rfl, rfl, 2, _, rfl, ⟨by decide, by decide, by rw [mkS_len]; omega, by rw [mkS_len]; omega⟩, ?_⟩
    have en : (((mkS zs).length : Int) - 1 - 2).toNat = zs.length - 3 := by rw [mkS_len]; omega
    rw [en]
    refine fun D nD => lc_range (lo := 2) (n := zs.length - 3) (fun n H' => Same H H' ∧ H' D = some (.lst ((plN S zs n).map fun r : Nat × Nat => natV r.1)) ∧ (plN S zs n).length ≤ n) ⟨same_upd (Same.refl H) nD, upd_same, by simp [plN]⟩ (fun n H' hn p => ⟨rfl, ?_⟩) (fun H' p => ?_)
    · obtain ⟨k1, e1, ln⟩ := p
      have g1 := wd.at (show n + 1 < zs.length by omega)
      have g2 := wd.at (show n + 2 < zs.length by omega)
      have ea : (2 + (n : Int)) - 1 = ((n + 1 : Nat) : Int) := by omega
      have eb : (2 + (n : Int)) = ((n + 2 : Nat) : Int) := by omega
      refine ⟨_, rfl, _, rfl, _, rfl, _, _, rfl, rfl, mkS zs, (2 + (n : Int)) - 1, zs.getD (n + 1) 0, rfl, rfl, hb, by rw [ea]; exact atI_nat g1.1, _, rfl, _, rfl, mkS zs, 2 + (n : Int), zs.getD (n + 2) 0, rfl, rfl, hb, by rw [eb]; exact atI_nat g2.1, ?_⟩
      refine ⟨v, S, _, _, rfl, hv.mono (same_tup k1), ok, g1.2, g2.2, fun H1 k2 => ?_⟩
      cases hp : look S.B (zs.getD (n + 1) 0, zs.getD (n + 2) 0) with
      | none =>
        refine ⟨rfl, false, rfl, k1.trans k2, ?_, ?_⟩
        · rw [plN_succ, hp, k2 _ _ e1]; show _ = some (HO.lst ((plN S zs n ++ []).map fun r : Nat × Nat => natV r.1)); rw [List.append_nil]
        · rw [plN_succ, hp]; show (plN S zs n ++ []).length ≤ _; rw [List.append_nil]; omega
      | some p =>
        refine ⟨rfl, true, rfl, _, rfl, _, k2 _ _ e1, by rw [List.length_map]; exact lt_s (by omega), same_mut (k1.trans k2) nD, ?_, ?_⟩
        · rw [upd_same, plN_succ, hp, List.map_append, eb]; rfl
        · rw [plN_succ, hp, List.length_append]; exact Nat.succ_le_succ ln
    · obtain ⟨k1, e1, _⟩ := p
      exact q _ _ k1 nD (by rw [places_plN]; exact e1)
def spShapeOf : Sp := fun vs H Q _ => ∃ (v : V) (S : Sty) (zs : List Nat), vs = [v, sV zs] ∧ StyV H v S ∧ StyOk S ∧ WdOk zs ∧ ∀ u H', Same H H' → ShapeV H' u S zs → Q u H'
theorem ok_shape_of (T : Txt K mg) : FnOk P w K mg base CX0 5 T.a_shape_of T.d_shape_of ["style", "word"] spShapeOf := by
  have G_break_price : FnOk P w K mg base CX0 2 T.a_break_price T.d_break_price ["style", "sign", "next_sign"] spPriceOf := ok_break_price T
  have G_parting_places : FnOk P w K mg base CX0 3 T.a_parting_places T.d_parting_places ["style", "word"] spPlacesOf := ok_parting_places T
  have G_u_piece_width : FnOk P w K mg base CX0 4 T.a_u_piece_width T.d_u_piece_width ["style", "word", "first", "behind"] spPieceW := ok_u_piece_width T
  refine T.D_shape_of.F.ok sc_shape_of (fun vs H Q E h => ?_) (fun cdv A outer s H vs Q E hr h => ?_)
  · obtain ⟨v, S, zs, rfl, _⟩ := h
    rfl
  · obtain ⟨v, S, zs, rfl, hv, ok, wd, q⟩ := h
    refine ⟨_, (pss_cons (ps_set (i := 2) sc_shape_of.nd rfl (.inl rfl) (pe_lst pa_nil))
      (pss_cons (ps_for PassesOwn.never rfl (pi_list (pe_call G_parting_places (hr.mono (by decide)) (by rfl) T.D_parting_places.G T.D_parting_places.F.kp T.D_parting_places.B .nil pass0 (pa_cons (pv 0) (pa_cons (pv 1) pa_nil)))) (pg_name (i := 3) sc_shape_of.nd rfl (.inl rfl)) (pss_cons (ps_set (i := 4) sc_shape_of.nd rfl (.inl rfl) (pe_call G_u_piece_width (hr.mono (by decide)) (by rfl) T.D_u_piece_width.G T.D_u_piece_width.F.kp T.D_u_piece_width.B .nil pass0 (pa_cons (pv 0) (pa_cons (pv 1) (pa_cons pe_int (pa_cons (pv 3) pa_nil))))))
      (pss_cons (ps_set (i := 5) sc_shape_of.nd rfl (.inl rfl) (pe_call G_u_piece_width (hr.mono (by decide)) (by rfl) T.D_u_piece_width.G T.D_u_piece_width.F.kp T.D_u_piece_width.B .nil pass0 (pa_cons (pv 0) (pa_cons (pv 1) (pa_cons (pv 3) (pa_cons (pe_callB call_len_str (by rfl) T.n_len PySem.boot_len (pa_cons (pv 1) pa_nil)) pa_nil))))))
      (pss_one (ps_expr (pe_bm PySem.F.plainAttrs_list PySem.F.slot_list_append PySem.F.type_list_append mt_append (pv 2) (pa_cons (pe_tup (pa_cons (pv 4) (pa_cons (pv 5) (pa_cons (pe_call G_break_price (hr.mono (by decide)) (by rfl) T.D_break_price.G T.D_break_price.F.kp T.D_break_price.B .nil pass0 (pa_cons (pv 0) (pa_cons (pe_ix ix_str (pv 1) (pe_op op_sub (pv 3) pe_int) (fun _ _ => rfl)) (pa_cons (pe_ix ix_str (pv 1) (pv 3) (fun _ _ => rfl)) pa_nil)))) pa_nil)))) pa_nil)))))))
      (pss_one (ps_ret (pe_tup (pa_cons (pe_call G_u_piece_width (hr.mono (by decide)) (by rfl) T.D_u_piece_width.G T.D_u_piece_width.F.kp T.D_u_piece_width.B .nil pass0 (pa_cons (pv 0) (pa_cons (pv 1) (pa_cons pe_int (pa_cons (pe_callB call_len_str (by rfl) T.n_len PySem.boot_len (pa_cons (pv 1) pa_nil)) pa_nil))))) (pa_cons (pe_callTy call_tuple_of (by rfl) T.n_tuple (by decide +kernel) (pa_cons (pv 2) pa_nil)) pa_nil))))))), ?_⟩
    have hb : (mkS zs).length ≤ sizeLine := by rw [mkS_len]; exact big_ok (by have := wd.len; omega)
    have hl := wd.len
    refine ⟨by show 0 ≤ sizeLine; decide, fun D nD => ?_⟩
    have k0 : Same H (upd H D (.lst [])) := same_upd (Same.refl H) nD
    have pln := places_len S zs
    refine ⟨_, rfl, _, rfl, v, S, zs, rfl, hv.mono (same_tup k0), ok, wd, fun H1 L k1 nL eL => ?_⟩
    have kA := k0.trans k1
    have eD1 : H1 D = some (.lst []) := k1 _ _ upd_same
    refine ⟨L, rfl, ⟨_, SqL.of eL⟩, ?_⟩
    refine for_it (walk_list (K := K) (a := L) (xs := (places S zs).map fun r : Nat × Nat => natV r.1)) (fun n σ' H' => ∃ (ps : List V) (x3 x4 x5 : Option V), σ' = [some v, some (sV zs), some (.ref D), x3, x4, x5] ∧ Same H H' ∧ H' D = some (.lst ps) ∧ H' L = some (.lst ((places S zs).map fun r : Nat × Nat => natV r.1)) ∧ PartL H' S zs ps ((places S zs).take n) ∧ ps.length = n) ⟨[], none, none, none, rfl, kA, eD1, eL, ⟨rfl, fun i r h => by simp at h⟩, rfl⟩ ?_ ?_ ?_
    · rintro n σ' H' _ ⟨_, _, _, _, _, _, _, e, _⟩
      exact SqL.of e
    · rintro n x σ' H' H'' hn ⟨ps, x3, x4, x5, rfl, k1, e1, eL, pl, ln⟩ ⟨rfl, hx⟩
      rw [List.getElem?_map] at hx
      cases hr0 : (places S zs)[n]? with
      | none => rw [hr0] at hx; cases hx
      | some r =>
      rw [hr0] at hx
      have hx := Option.some.inj hx
      subst hx
      have hn : n < (places S zs).length := (List.getElem?_eq_some_iff.mp hr0).1
      have hm := List.mem_of_getElem? hr0
      have bd := places_bd hm
      have lk := places_look hm
      have hv1 := hv.mono (same_tup k1)
      have g1 := wd.at (show r.1 - 1 < zs.length by omega)
      have g2 := wd.at (show r.1 < zs.length by omega)
      have ea : (r.1 : Int) - 1 = ((r.1 - 1 : Nat) : Int) := by omega
      refine ⟨_, rfl, _, rfl, _, rfl, v, S, zs, 0, r.1, rfl, hv1, ok, wd, Nat.zero_le _, by omega, fun H2 k3 => ?_⟩
      refine ⟨_, rfl, _, rfl, _, rfl, _, rfl, mkS zs, rfl, hb, v, S, zs, r.1, zs.length, by rw [mkS_len]; rfl, hv1.mono (same_tup k3), ok, wd, by omega, Nat.le_refl _, fun H3 k4 => ?_⟩
      have e3 := k4 _ _ (k3 _ _ e1)
      refine ⟨.ref D, rfl, .inl ⟨rfl, _, .inl (.inl e3)⟩, _, rfl, _, rfl, _, rfl, _, rfl, _, rfl, _, _, rfl, rfl, mkS zs, (r.1 : Int) - 1, zs.getD (r.1 - 1) 0, rfl, rfl, hb, by rw [ea]; exact atI_nat g1.1, _, rfl, _, rfl, mkS zs, (r.1 : Int), zs.getD r.1 0, rfl, rfl, hb, atI_nat g2.1, ?_⟩
      refine ⟨v, S, _, _, rfl, (hv1.mono (same_tup k3)).mono (same_tup k4), ok, g1.2, g2.2, fun H4 k5 => ?_⟩
      rw [lk]
      have e4 := k5 _ _ e3
      refine ⟨Nat.le_of_lt (lt_s (by show 3 < 100000; decide)), fun b nb => ?_⟩
      have kr := same_upd (o := .tup [natV (pieceW S zs 0 r.1), natV (pieceW S zs r.1 zs.length), natV r.2]) (Same.refl H4) nb
      have kk := (k3.trans (k4.trans k5)).trans kr
      refine ⟨D, _, _, rfl, rfl, kk _ _ e1, lt_s (by omega), ?_⟩
      have nLD : L ≠ D := fun z => by rw [z] at eL; rw [eL] at e1; have := HO.lst.inj (Option.some.inj e1); rw [← this] at ln; rw [List.length_map] at ln; omega
      have nr2 : b ≠ D := fun z => by rw [z, e4] at nb; cases nb
      refine ⟨_, _, _, _, rfl, same_mut (k1.trans kk) nD, upd_same, by rw [upd_ne nLD]; exact kk _ _ eL, ?_, by rw [List.length_append, ln]; rfl⟩
      rw [take_succ' hr0]
      have kq : ∀ a xs, upd H4 b (.tup [natV (pieceW S zs 0 r.1), natV (pieceW S zs r.1 zs.length), natV r.2]) a = some (.tup xs) → upd (upd H4 b (.tup [natV (pieceW S zs 0 r.1), natV (pieceW S zs r.1 zs.length), natV r.2])) D (.lst (ps ++ [V.ref b])) a = some (.tup xs) := fun a xs e => by
        have : a ≠ D := fun z => by
          rw [z, kk _ _ e1] at e; cases e
        rw [upd_ne this]; exact e
      exact ((pl.same (same_tup kk)).snoc ⟨b, rfl, upd_same⟩).same kq
    · rintro σ' H' ⟨ps, x3, x4, x5, rfl, k1, e1, eL, pl, ln⟩
      rw [List.length_map, List.take_length] at pl
      have hv1 := hv.mono (same_tup k1)
      refine ⟨_, rfl, _, rfl, _, rfl, mkS zs, rfl, hb, v, S, zs, 0, zs.length, by rw [mkS_len]; rfl, hv1, ok, wd, Nat.zero_le _, Nat.le_refl _, fun H2 k3 => ?_⟩
      refine ⟨_, rfl, D, ps, rfl, .inl ⟨SqL.of (k3 _ _ e1), fun p np => ?_⟩⟩
      have kp := same_upd (o := .tup ps) (Same.refl H2) np
      refine ⟨by show 2 ≤ sizeLine; decide, fun r nr => ?_⟩
      have kr := same_upd (o := .tup [natV (pieceW S zs 0 zs.length), V.ref p]) (Same.refl _) nr
      exact q _ _ ((k1.trans k3).trans (kp.trans kr)) ⟨r, p, ps, rfl, upd_same, kr _ _ upd_same, pl.same (same_tup (k3.trans (kp.trans kr)))⟩
theorem ends_part {S : Sty} {zs : List Nat} {k : Nat} {r : Nat × Nat} (h : (places S zs)[k]? = some r) : (ends S zs)[k + 1]? = some r.1 := by
  show ((places S zs).map (·.1) ++ [zs.length])[k]? = _
  have hk := (List.getElem?_eq_some_iff.mp h).1
  rw [List.getElem?_append_left (by rw [List.length_map]; exact hk), List.getElem?_map, h]
  rfl
theorem ends_last (S : Sty) (zs : List Nat) : (ends S zs)[(places S zs).length + 1]? = some zs.length := by
  show ((places S zs).map (·.1) ++ [zs.length])[(places S zs).length]? = _
  rw [List.getElem?_append_right (by rw [List.length_map]; exact Nat.le_refl _), List.length_map, Nat.sub_self]
  rfl
theorem ends_len (S : Sty) (zs : List Nat) : (ends S zs).length = (places S zs).length + 2 := by
  unfold ends
  rw [List.length_cons, List.length_append, List.length_map]; rfl
def spPieceWidth : Sp := fun vs H Q _ => ∃ (u : V) (S : Sty) (zs : List Nat) (i j a b : Nat), vs = [u, .int (i : Int), .int ((if j = (places S zs).length + 1 then 0 else j : Nat) : Int)] ∧ ShapeV H u S zs ∧ StyOk S ∧ 0 < zs.length ∧ i < j ∧ (ends S zs)[i]? = some a ∧ (ends S zs)[j]? = some b ∧ ∀ H', Same H H' → Q (natV (pieceW S zs a b)) H'
theorem ok_piece_width (T : Txt K mg) : FnOk P w K mg base CX0 1 T.a_piece_width T.d_piece_width ["shape", "first", "last"] spPieceWidth := by
  refine T.D_piece_width.F.ok sc_piece_width (fun vs H Q E h => ?_) (fun cdv A outer s H vs Q E hr h => ?_)
  · obtain ⟨v, S, zs, i, j, a, b, rfl, _⟩ := h
    rfl
  · obtain ⟨v, S, zs, i, j, a, b, rfl, ⟨sa, pa, us, rfl, e1, e2, pl⟩, ok, h0, hij, ea, eb, q⟩ := h
    have lj : j ≤ (places S zs).length + 1 := by
      have := (List.getElem?_eq_some_iff.mp eb).1
      rw [ends_len] at this
      omega
    obtain ⟨J, eJ⟩ : ∃ J : Nat, J = if j = (places S zs).length + 1 then 0 else j := ⟨_, rfl⟩
    rw [← eJ]
    have at1 : ∀ k : Nat, 0 < k → k ≤ (places S zs).length → ∃ (r : Nat × Nat) (x : Addr), us[k - 1]? = some (.ref x) ∧ H x = some (.tup [natV (pieceW S zs 0 r.1), natV (pieceW S zs r.1 zs.length), natV r.2]) ∧ (ends S zs)[k]? = some r.1 ∧ r ∈ places S zs := by
      intro k h1 h2
      have g : (places S zs)[k - 1]? = some (places S zs)[k - 1] := List.getElem?_eq_getElem (by omega)
      obtain ⟨x, gx, y, rfl, ey⟩ := pl.2 _ _ g
      have := ends_part g
      rw [show k - 1 + 1 = k by omega] at this
      exact ⟨_, y, gx, ey, this, List.getElem_mem _⟩
    refine ⟨_, (pss_cons (ps_asg (pv 0) (pg_tup (by rfl) (pgs_cons (pg_name (i := 3) sc_piece_width.nd rfl (.inl rfl)) (pgs_cons (pg_name (i := 4) sc_piece_width.nd rfl (.inl rfl)) pgs_nil))))
      (pss_cons (ps_if (PW.pt (pw_and (pt_cmpR op_eq (pv 1) pe_int (nomark _)) (pw_and1 (pt_cmpR op_eq (pv 2) pe_int (nomark _))))) (pss_one (ps_ret (pv 3))) pss_nil)
      (pss_cons (ps_if (pt_cmpR op_eq (pv 1) pe_int (nomark _)) (pss_one (ps_ret (pe_ix ix_tup (pe_ix ix_tup (pv 4) (pe_op op_sub (pv 2) pe_int) (fun _ _ => rfl)) pe_int (fun _ _ => rfl)))) pss_nil)
      (pss_cons (ps_if (pt_cmpR op_eq (pv 2) pe_int (nomark _)) (pss_one (ps_ret (pe_ix ix_tup (pe_ix ix_tup (pv 4) (pe_op op_sub (pv 1) pe_int) (fun _ _ => rfl)) pe_int (fun _ _ => rfl)))) pss_nil)
      (pss_one (ps_ret (pe_op op_sub (pe_op op_add (pe_ix ix_tup (pe_ix ix_tup (pv 4) (pe_op op_sub (pv 1) pe_int) (fun _ _ => rfl)) pe_int (fun _ _ => rfl)) (pe_ix ix_tup (pe_ix ix_tup (pv 4) (pe_op op_sub (pv 2) pe_int) (fun _ _ => rfl)) pe_int (fun _ _ => rfl))) (pv 3)))))))), ?_⟩
    refine ⟨_, rfl, sa, _, rfl, SqT.of e1, rfl, _, _, rfl, _, _, rfl, rfl, ?_⟩
    have cA : ∀ k : Nat, 0 < k → (k : Int) - 1 = ((k - 1 : Nat) : Int) := fun k hk => by omega
    by_cases hi : i = 0
    · subst hi
      have : (0 : Nat) = a := Option.some.inj ea
      subst this
      by_cases hj : j = (places S zs).length + 1
      · rw [if_pos hj] at eJ
        subst eJ
        rw [hj, ends_last] at eb
        have : zs.length = b := Option.some.inj eb
        subst this
        exact ⟨_, rfl, rfl, true, bT rfl, _, rfl, rfl, true, bT rfl, _, rfl, q _ (Same.refl _)⟩
      · rw [if_neg hj] at eJ
        subst eJ
        obtain ⟨r, x, gx, ex, er, hr2⟩ := at1 J (by omega) (by omega)
        rw [er] at eb
        have : r.1 = b := Option.some.inj eb
        subst this
        have hJ : ¬ V.int (J : Int) = V.int 0 := fun z => by have := V.int.inj z; omega
        refine ⟨_, rfl, rfl, true, bT rfl, _, rfl, rfl, false, bF hJ, ?_⟩
        refine ⟨_, rfl, rfl, true, bT rfl, _, rfl, _, rfl, _, _, rfl, rfl, pa, us, _, .ref x, rfl, rfl, SqT.of e2, by rw [cA J (by omega)]; exact atI_nat gx, x, _, _, _, rfl, rfl, SqT.of ex, rfl, q _ (Same.refl _)⟩
    · have hI : ¬ V.int (i : Int) = V.int 0 := fun z => by have := V.int.inj z; omega
      obtain ⟨r, x, gx, ex, er, hr2⟩ := at1 i (by omega) (by omega)
      rw [er] at ea
      have : r.1 = a := Option.some.inj ea
      subst this
      refine ⟨_, rfl, rfl, false, bF hI, _, rfl, rfl, false, bF hI, ?_⟩
      by_cases hj : j = (places S zs).length + 1
      · rw [if_pos hj] at eJ
        subst eJ
        rw [hj, ends_last] at eb
        have : zs.length = b := Option.some.inj eb
        subst this
        refine ⟨_, rfl, rfl, true, bT rfl, _, rfl, _, rfl, _, _, rfl, rfl, pa, us, _, .ref x, rfl, rfl, SqT.of e2, by rw [cA i (by omega)]; exact atI_nat gx, x, _, _, _, rfl, rfl, SqT.of ex, rfl, q _ (Same.refl _)⟩
      · rw [if_neg hj] at eJ
        subst eJ
        have hJ : ¬ V.int (J : Int) = V.int 0 := fun z => by have := V.int.inj z; omega
        obtain ⟨r2, x2, gx2, ex2, er2, hr3⟩ := at1 J (by omega) (by omega)
        rw [er2] at eb
        have : r2.1 = b := Option.some.inj eb
        subst this
        refine ⟨_, rfl, rfl, false, bF hJ, ?_⟩
        refine ⟨_, rfl, _, rfl, _, _, rfl, rfl, pa, us, _, .ref x, rfl, rfl, SqT.of e2, by rw [cA i (by omega)]; exact atI_nat gx, x, _, _, _, rfl, rfl, SqT.of ex, rfl, ?_⟩
        refine ⟨_, rfl, _, rfl, _, _, rfl, rfl, pa, us, _, .ref x2, rfl, rfl, SqT.of e2, by rw [cA J (by omega)]; exact atI_nat gx2, x2, _, _, _, rfl, rfl, SqT.of ex2, rfl, _, _, rfl, rfl, _, rfl, _, _, rfl, rfl, ?_⟩
        have hlt : r.1 < r2.1 := by
          have g1 : (places S zs)[i - 1]? = some (places S zs)[i - 1] := List.getElem?_eq_getElem (by omega)
          have g2 : (places S zs)[J - 1]? = some (places S zs)[J - 1] := List.getElem?_eq_getElem (by omega)
          have e3 := ends_part g1
          have e4 := ends_part g2
          rw [show i - 1 + 1 = i by omega, er] at e3
          rw [show J - 1 + 1 = J by omega, er2] at e4
          rw [Option.some.inj e3, Option.some.inj e4]
          exact List.pairwise_iff_getElem.mp (places_asc S zs) _ _ (by omega) (by omega) (by omega)
        have b1 := places_bd hr2
        have b2 := places_bd hr3
        have em := pieceW_mid (zs := zs) ok hlt (by omega) (by omega)
        show Q (V.int ((pieceW S zs r.1 zs.length : Int) + (pieceW S zs 0 r2.1 : Int) - (pieceW S zs 0 zs.length : Int))) H
        rw [em]
        exact q _ (Same.refl _)
end
end Vf

set_option Elab.async false
set_option linter.all false
set_option maxRecDepth 100000
set_option maxHeartbeats 4000000
namespace Vf
open PySem PySem.Spec PyProof.Rows L2 TL
/-- what the list of a comprehension holds: texts -/
def PvS (R : List Nat → Prop) (d l : Addr) (H : Hp) (D : Addr) (i : Nat) (H' : Hp) : Prop :=
  ∃ zss : List (List Nat), zss.length = i ∧ (∀ zs ∈ zss, R zs) ∧ Kp d H H' ∧ DI d l H' ∧ H' D = some (.lst (zss.map sV))
theorem PvS.start {R : List Nat → Prop} {d l D : Addr} {H : Hp} (hD : DI d l H) (nD : H D = none) : PvS R d l H D 0 (upd H D (.lst [])) :=
  ⟨[], rfl, (fun _ h => nomatch h), (Kp.refl d H).new nD, hD.new nD, upd_same⟩
theorem PvS.dice {R : List Nat → Prop} {d l D : Addr} {H H1 : Hp} {i : Nat} (p : PvS R d l H D i H1) : DI d l H1 := by
  obtain ⟨_, _, _, _, h, _⟩ := p
  exact h
theorem PvS.step {R : List Nat → Prop} {d l D : Addr} {H H1 H2 : Hp} {i : Nat} {zs : List Nat} (hD : DI d l H) (nD : H D = none) (p : PvS R d l H D i H1) (hi : i < 100000) (K2 : Kp d H1 H2) (D2 : DI d l H2) (r : R zs) :
    ∃ acc, H2 D = some (.lst acc) ∧ acc.length < sizeLine ∧ PvS R d l H D (i + 1) (upd H2 D (.lst (acc ++ [sV zs]))) := by
  obtain ⟨zss, hl, hR, K1, D1, e1⟩ := p
  have n1 := hD.nd nD
  have e2 : H2 D = some (.lst (zss.map sV)) := K2 _ _ n1.1 e1
  refine ⟨_, e2, ?_, zss ++ [zs], ?_, ?_, (K1.trans K2).mut nD, D2.at n1.1 n1.2, ?_⟩
  · rw [List.length_map, hl]
    exact Nat.lt_of_lt_of_le hi (by decide)
  · rw [List.length_append, hl]; rfl
  · intro z hz
    rcases List.mem_append.mp hz with h | h
    · exact hR z h
    · rw [List.mem_singleton.mp h]; exact r
  · rw [upd_same, List.map_append]; rfl
section
variable {P : Program} {w : World} {K : PySem.W.Frag} {mg : Str → Option Value} {base : Heap}
/-! ### pick, rare -/
/-- what is picked from -/
def Row (K : PySem.W.Frag) (H : Hp) (d : Addr) (row : V) (xs : List V) : Prop :=
  (∃ a, row = .ref a ∧ a ≠ d ∧ SqL K H a xs) ∨ ∃ zs, row = sV zs ∧ xs = zs.map fun c => sV [c]
def spPick (K : PySem.W.Frag) : Sp := fun vs H Q _ => ∃ (d l : Addr) (row : V) (xs : List V), vs = [.ref d, row] ∧ DI d l H ∧ Row K H d row xs ∧ 0 < xs.length ∧ xs.length ≤ 1000 ∧
  ∀ H' v, Kp d H H' → DI d l H' → v ∈ xs → Q v H'
theorem at_draw {xs : List V} {r : Int} (h : 0 < xs.length) (h1 : (xs.length : Int) < 2 → r = 0) (h2 : 2 ≤ (xs.length : Int) → 0 ≤ r ∧ r < (xs.length : Int)) :
    ∃ (j : Nat) (hj : j < xs.length), r = (j : Int) := by
  by_cases h3 : 2 ≤ (xs.length : Int)
  · have ⟨a, b⟩ := h2 h3
    exact ⟨r.toNat, by omega, by omega⟩
  · exact ⟨0, h, by rw [h1 (by omega)]; rfl⟩
theorem ok_pick (T : Txt K mg) : FnOk P w K mg base CX0 2 T.a_law_pick T.d_law_pick ["_law_d", "_law_row"] (spPick K) := by
  have G_law_draw : FnOk P w K mg base CX0 1 T.a_law_draw T.d_law_draw ["_law_d", "_law_many"] spDraw := ok_draw T
  refine T.D_law_pick.F.ok sc_law_pick (fun vs H Q E h => ?_) (fun cdv A outer s H vs Q E hr h => ?_)
  · obtain ⟨d, l, row, xs, rfl, _⟩ := h
    rfl
  · obtain ⟨d, l, row, xs, rfl, hD, hR, h0, hx, q⟩ := h
    refine ⟨_, (pss_one (ps_ret (pe_ix ix_seq (pv 1) (pe_call G_law_draw (hr.mono (by decide)) (by rfl) T.D_law_draw.G T.D_law_draw.F.kp T.D_law_draw.B .nil pass0 (pa_cons (pv 0) (pa_cons (pe_callB call_len (by rfl) T.n_len PySem.boot_len (pa_cons (pv 1) pa_nil)) pa_nil))) (fun _ _ => rfl)))), ?_⟩
    have hlen : LenV K row H xs.length := by
      rcases hR with ⟨a, rfl, _, hS⟩ | ⟨zs, rfl, rfl⟩
      · exact .inl ⟨_, hS, rfl⟩
      · rw [List.length_map] at hx ⊢
        refine ⟨?_, (mkS_len zs).symm⟩
        rw [mkS_len]
        exact Nat.le_trans hx (by decide)
    refine ⟨_, rfl, _, rfl, _, rfl, _, _, rfl, hlen, d, l, _, rfl, hD, by omega, fun H' r k D' e1 e2 => ?_⟩
    obtain ⟨j, hj, rfl⟩ := at_draw h0 e1 e2
    rcases hR with ⟨a, rfl, nd, hS⟩ | ⟨zs, rfl, rfl⟩
    · exact .inl ⟨a, xs, _, xs[j], rfl, rfl, k.sq nd hS, atI_nat (List.getElem?_eq_getElem hj), q H' _ k D' (List.getElem_mem hj)⟩
    · have hj2 : j < zs.length := by rw [List.length_map] at hj; exact hj
      refine .inr (.inr ⟨mkS zs, _, zs[j], rfl, rfl, ?_, ?_, q H' _ k D' (List.mem_map.mpr ⟨zs[j], List.getElem_mem hj2, rfl⟩)⟩)
      · rw [mkS_len]; rw [List.length_map] at hx; exact Nat.le_trans hx (by decide)
      · rw [mkS_cps]; exact atI_nat (List.getElem?_eq_getElem hj2)
def spRare : Sp := fun vs H Q _ => ∃ (d l : Addr) (m : Int), vs = [.ref d, .int m] ∧ DI d l H ∧ m ≤ 1000000 ∧ ∀ H' b, Kp d H H' → DI d l H' → Q (.bl b) H'
theorem ok_rare (T : Txt K mg) : FnOk P w K mg base CX0 2 T.a_law_rare T.d_law_rare ["_law_d", "_law_many"] spRare := by
  have G_law_draw : FnOk P w K mg base CX0 1 T.a_law_draw T.d_law_draw ["_law_d", "_law_many"] spDraw := ok_draw T
  refine T.D_law_rare.F.ok sc_law_rare (fun vs H Q E h => ?_) (fun cdv A outer s H vs Q E hr h => ?_)
  · obtain ⟨d, l, m, rfl, _⟩ := h
    rfl
  · obtain ⟨d, l, m, rfl, hD, hm, q⟩ := h
    refine ⟨_, (pss_one (ps_ret (pe_cmpR op_eq (pe_call G_law_draw (hr.mono (by decide)) (by rfl) T.D_law_draw.G T.D_law_draw.F.kp T.D_law_draw.B .nil pass0 (pa_cons (pv 0) (pa_cons (pv 1) pa_nil))) (pe_op op_fdivN (pe_op op_mul (pv 1) pe_int) pe_int) (nomark _)))), ?_⟩
    refine ⟨_, rfl, _, rfl, d, l, m, rfl, hD, (by omega), fun H' r k D' e1 e2 => ?_⟩
    exact ⟨_, rfl, _, _, rfl, rfl, .inr ⟨by decide, by decide⟩, _, _, rfl, rfl, ⟨by decide, by decide⟩, rfl, q H' _ k D'⟩
/-! ### run, word -/
def spRun : Sp := fun vs H Q _ => ∃ (d l : Addr) (cs : List Nat) (n : Int), vs = [.ref d, sV cs, .int n] ∧ DI d l H ∧ 0 < cs.length ∧ cs.length ≤ 1000 ∧ 0 ≤ n ∧ n ≤ 1000 ∧
  ∀ H' zs, Kp d H H' → DI d l H' → (zs.length : Int) = n → (∀ c ∈ zs, c ∈ cs) → Q (sV zs) H'
/-- texts of one sign each -/
def One (cs zs : List Nat) : Prop := ∃ c, zs = [c] ∧ c ∈ cs
theorem one_flat {cs : List Nat} : ∀ {zss : List (List Nat)}, (∀ z ∈ zss, One cs z) → zss.flatten.length = zss.length ∧ ∀ c ∈ zss.flatten, c ∈ cs
  | [], _ => ⟨rfl, fun _ h => nomatch h⟩
  | z :: r, h => by
    obtain ⟨c, rfl, hc⟩ := h z List.mem_cons_self
    have ⟨a, b⟩ := one_flat (zss := r) fun y hy => h y (List.mem_cons_of_mem _ hy)
    rw [List.flatten_cons]
    refine ⟨by rw [List.length_append, a]; show 1 + r.length = r.length + 1; omega, fun x hx => ?_⟩
    rcases List.mem_append.mp hx with e | e
    · rw [List.mem_singleton.mp e]; exact hc
    · exact b x e
theorem pick_one {d l : Addr} {cs : List Nat} {H : Hp} {Q : VK} (hD : DI d l H) (h0 : 0 < cs.length) (hx : cs.length ≤ 1000) (q : ∀ H' zs, Kp d H H' → DI d l H' → One cs zs → Q (sV zs) H') : spPick K [.ref d, sV cs] H Q E0 := by
  refine ⟨d, l, _, _, rfl, hD, .inr ⟨cs, rfl, rfl⟩, by rw [List.length_map]; exact h0, by rw [List.length_map]; exact hx, fun H' v k D' hv => ?_⟩
  obtain ⟨c, hc, rfl⟩ := List.mem_map.mp hv
  exact q H' _ k D' ⟨c, rfl, hc⟩
def spWord : Sp := fun vs H Q _ => ∃ (d l : Addr) (lo hi : Int), vs = [.ref d, .int lo, .int hi] ∧ DI d l H ∧ 0 ≤ lo ∧ lo ≤ hi ∧ hi ≤ 900 ∧
  ∀ H' zs, Kp d H H' → DI d l H' → lo ≤ (zs.length : Int) → (zs.length : Int) ≤ hi → (∀ c ∈ zs, cW c = true) → Q (sV zs) H'
end
end Vf

set_option Elab.async false
set_option linter.all false
set_option maxRecDepth 100000
set_option maxHeartbeats 4000000
namespace Vf
open PySem PySem.Spec PyProof.Rows L2 TL
/-! ### rows of things, nets -/
def nV (w : Nat) : V := .int (w : Int)
def oV : Option Int → V
  | none => .non
  | some x => .int x
def oN (o : Option Nat) : V := oV (o.map fun x : Nat => (x : Int))
theorem oV_inj : ∀ {a b : Option Int}, oV a = oV b → a = b
  | none, none, _ => rfl
  | some _, some _, h => by rw [V.int.inj h]
  | none, some _, h => by cases h
  | some _, none, h => by cases h
theorem szN {n : Nat} (h : n < 100000) : n < sizeLine := Nat.lt_of_lt_of_le h (by decide)
theorem bTr {p : Prop} [Decidable p] (h : p) : V.bl (decide p) = V.bl true := by rw [decide_eq_true h]
theorem bFa {p : Prop} [Decidable p] (h : ¬ p) : V.bl (decide p) = V.bl false := by rw [decide_eq_false h]
theorem bNT {p : Prop} [Decidable p] (h : p) : V.bl (!decide p) = V.bl false := by rw [decide_eq_true h]; rfl
theorem bNF {p : Prop} [Decidable p] (h : ¬ p) : V.bl (!decide p) = V.bl true := by rw [decide_eq_false h]; rfl
/-- what stands in a list or tuple, thing by thing -/
def LV {α : Type} (R : V → α → Prop) (vs : List V) (rs : List α) : Prop := vs.length = rs.length ∧ ∀ (i : Nat) (r : α), rs[i]? = some r → ∃ x, vs[i]? = some x ∧ R x r
theorem LV.nil {α : Type} {R : V → α → Prop} : LV R [] [] := ⟨rfl, fun i r h => by cases i <;> cases h⟩
theorem LV.mono {α : Type} {R R' : V → α → Prop} {vs : List V} {rs : List α} (h : LV R vs rs) (k : ∀ x r, R x r → R' x r) : LV R' vs rs := ⟨h.1, fun i r e => by
  obtain ⟨x, e1, e2⟩ := h.2 i r e
  exact ⟨x, e1, k _ _ e2⟩⟩
theorem LV.snoc {α : Type} {R : V → α → Prop} {vs : List V} {rs : List α} {x : V} {r : α} (h : LV R vs rs) (hx : R x r) : LV R (vs ++ [x]) (rs ++ [r]) := by
  refine ⟨by rw [List.length_append, List.length_append, h.1]; rfl, fun i q e => ?_⟩
  by_cases hi : i < rs.length
  · rw [List.getElem?_append_left hi] at e
    obtain ⟨y, e1, e2⟩ := h.2 i q e
    exact ⟨y, by rw [List.getElem?_append_left (by rw [h.1]; exact hi)]; exact e1, e2⟩
  · rw [List.getElem?_append_right (by omega)] at e
    have e0 : i - rs.length = 0 := by
      have := (List.getElem?_eq_some_iff.mp e).1
      simp at this
      exact this
    rw [e0] at e
    have e : r = q := Option.some.inj e
    subst e
    exact ⟨x, by rw [List.getElem?_append_right (by rw [h.1]; omega), h.1, e0]; rfl, hx⟩
theorem LV.at {α : Type} {R : V → α → Prop} {vs : List V} {rs : List α} {i : Nat} {x : V} (h : LV R vs rs) (e : vs[i]? = some x) : ∃ r, rs[i]? = some r ∧ R x r := by
  have hi : i < rs.length := by rw [← h.1]; exact (List.getElem?_eq_some_iff.mp e).1
  obtain ⟨y, e1, e2⟩ := h.2 i _ (List.getElem?_eq_getElem hi)
  rw [e] at e1
  have := Option.some.inj e1
  subst this
  exact ⟨_, List.getElem?_eq_getElem hi, e2⟩
abbrev Arc := Nat × Nat × Nat
def ArcV (H : Hp) (x : V) (r : Arc) : Prop := ∃ b, x = .ref b ∧ H b = some (.tup [nV r.1, nV r.2.1, nV r.2.2])
theorem ArcV.mono {H H' : Hp} {x : V} {r : Arc} (h : ArcV H x r) (k : ∀ a xs, H a = some (.tup xs) → H' a = some (.tup xs)) : ArcV H' x r := by
  obtain ⟨b, e, f⟩ := h
  exact ⟨b, e, k _ _ f⟩
theorem kpTup {d l : Addr} {H H' : Hp} (D : DI d l H) (k : Kp d H H') : ∀ a xs, H a = some (.tup xs) → H' a = some (.tup xs) := fun a xs e => by
  obtain ⟨n, ⟨ns, h1⟩, i, b, s, c, h0, h2⟩ := D
  exact k _ _ (fun z => by rw [z, h2] at e; cases e) e
end Vf

set_option Elab.async false
set_option linter.all false
set_option maxRecDepth 100000
set_option maxHeartbeats 4000000
namespace Vf
open PySem PySem.Spec PyProof.Rows L2 TL
/-! ### least totals along arcs: f the bounds, g the tails, of the arcs Pr -/
structure Bd (Pr : Arc → Prop) (f g : Nat → Option Nat) : Prop where
  z : f 0 = some 0 ∧ g 0 = none
  s : ∀ v y, v ≠ 0 → f v = some y → ∃ u c x, g v = some u ∧ Pr (u, v, c) ∧ f u = some x ∧ y = x + c ∧ ∀ u' c' x', Pr (u', v, c') → f u' = some x' → y ≤ x' + c' ∧ (y = x' + c' → u ≤ u')
  n : ∀ v, v ≠ 0 → f v = none → g v = none ∧ ∀ u' c', Pr (u', v, c') → f u' = none
def fset (f : Nat → Option Nat) (h : Nat) (x : Nat) : Nat → Option Nat := fun j => if j = h then some x else f j
theorem fset_same {f : Nat → Option Nat} {h x : Nat} : fset f h x h = some x := if_pos rfl
theorem fset_ne {f : Nat → Option Nat} {h x j : Nat} (e : j ≠ h) : fset f h x j = f j := if_neg e
theorem Bd.start : Bd (fun _ => False) (fset (fun _ => none) 0 0) (fun _ => none) where
  z := ⟨fset_same, rfl⟩
  s := fun v y hv e => by rw [fset_ne hv] at e; cases e
  n := fun v hv e => ⟨rfl, fun _ _ h => h.elim⟩
theorem Bd.congr {P P' : Arc → Prop} {f g : Nat → Option Nat} (B : Bd P f g) (h : ∀ a, P' a ↔ P a) : Bd P' f g := by
  have : P' = P := funext fun a => propext (h a)
  rw [this]; exact B
theorem Bd.put {Pr : Arc → Prop} {f g : Nat → Option Nat} {t h c x : Nat} (B : Bd Pr f g) (hp : ∀ a, Pr a → a.1 ≤ t) (th : t < h) (ft : f t = some x) (lo : ∀ y, f h = some y → x + c < y) :
    Bd (fun a => Pr a ∨ a = (t, h, c)) (fset f h (x + c)) (fset g h t) where
  z := ⟨by rw [fset_ne (by omega)]; exact B.z.1, by rw [fset_ne (by omega)]; exact B.z.2⟩
  s := fun v y hv e => by
    by_cases hh : v = h
    · subst hh
      rw [fset_same] at e
      have e := Option.some.inj e
      refine ⟨t, c, x, fset_same, .inr rfl, by rw [fset_ne (by omega)]; exact ft, e.symm, fun u' c' x' hP e' => ?_⟩
      rcases hP with hP | hP
      · have hu := hp _ hP
        have hu : u' ≤ t := hu
        rw [fset_ne (by omega)] at e'
        cases q : f v with
        | none => rw [(B.n v hv q).2 u' c' hP] at e'; cases e'
        | some y0 =>
          obtain ⟨_, _, _, _, _, _, _, H⟩ := B.s v y0 hv q
          have := H u' c' x' hP e'
          have := lo y0 q
          omega
      · cases hP
        rw [fset_ne (by omega), ft] at e'
        have := Option.some.inj e'
        omega
    · rw [fset_ne hh] at e
      obtain ⟨u, c0, x0, h1, h2, h3, h4, H⟩ := B.s v y hv e
      have hu : u ≤ t := hp _ h2
      refine ⟨u, c0, x0, by rw [fset_ne hh]; exact h1, .inl h2, by rw [fset_ne (by omega)]; exact h3, h4, fun u' c' x' hP e' => ?_⟩
      rcases hP with hP | hP
      · have hu' : u' ≤ t := hp _ hP
        rw [fset_ne (by omega)] at e'
        exact H u' c' x' hP e'
      · cases hP
        exact absurd rfl hh
  n := fun v hv e => by
    by_cases hh : v = h
    · subst hh; rw [fset_same] at e; cases e
    · rw [fset_ne hh] at e
      obtain ⟨h1, h2⟩ := B.n v hv e
      refine ⟨by rw [fset_ne hh]; exact h1, fun u' c' hP => ?_⟩
      rcases hP with hP | hP
      · have hu' : u' ≤ t := hp _ hP
        rw [fset_ne (by omega)]
        exact h2 u' c' hP
      · cases hP
        exact absurd rfl hh
theorem Bd.skip {Pr : Arc → Prop} {f g : Nat → Option Nat} {t h c x y : Nat} (B : Bd Pr f g) (hp : ∀ a, Pr a → a.1 ≤ t) (th : t < h) (ft : f t = some x) (fh : f h = some y) (le : y ≤ x + c) :
    Bd (fun a => Pr a ∨ a = (t, h, c)) f g where
  z := B.z
  s := fun v y' hv e => by
    obtain ⟨u, c0, x0, h1, h2, h3, h4, H⟩ := B.s v y' hv e
    refine ⟨u, c0, x0, h1, .inl h2, h3, h4, fun u' c' x' hP e' => ?_⟩
    rcases hP with hP | hP
    · exact H u' c' x' hP e'
    · cases hP
      rw [ft] at e'
      rw [fh] at e
      have e1 := Option.some.inj e'
      have e2 := Option.some.inj e
      have hu : u ≤ t := hp _ h2
      exact ⟨by omega, fun _ => hu⟩
  n := fun v hv e => by
    obtain ⟨h1, h2⟩ := B.n v hv e
    refine ⟨h1, fun u' c' hP => ?_⟩
    rcases hP with hP | hP
    · exact h2 u' c' hP
    · cases hP
      rw [fh] at e; cases e
theorem Bd.none_ {Pr P2 : Arc → Prop} {f g : Nat → Option Nat} (B : Bd Pr f g) (h : ∀ a, P2 a → f a.1 = none) : Bd (fun a => Pr a ∨ P2 a) f g where
  z := B.z
  s := fun v y hv e => by
    obtain ⟨u, c0, x0, h1, h2, h3, h4, H⟩ := B.s v y hv e
    refine ⟨u, c0, x0, h1, .inl h2, h3, h4, fun u' c' x' hP e' => ?_⟩
    rcases hP with hP | hP
    · exact H u' c' x' hP e'
    · have := h _ hP
      have this : f u' = none := this
      rw [this] at e'; cases e'
  n := fun v hv e => by
    obtain ⟨h1, h2⟩ := B.n v hv e
    refine ⟨h1, fun u' c' hP => ?_⟩
    rcases hP with hP | hP
    · exact h2 u' c' hP
    · exact h _ hP
theorem Bd.le {Pr : Arc → Prop} {f g : Nat → Option Nat} (B : Bd Pr f g) {u v c x : Nat} (hP : Pr (u, v, c)) (e : f u = some x) : ∃ y, f v = some y ∧ y ≤ x + c := by
  by_cases hv : v = 0
  · subst hv; exact ⟨0, B.z.1, Nat.zero_le _⟩
  · cases q : f v with
    | none => rw [(B.n v hv q).2 u c hP] at e; cases e
    | some y =>
      obtain ⟨_, _, _, _, _, _, _, H⟩ := B.s v y hv q
      exact ⟨y, rfl, (H u c x hP e).1⟩
/-- the cost of the arc from u to v -/
def cst (as : List Arc) (u v : Nat) : Option Nat := (as.find? fun a => decide (a.1 = u ∧ a.2.1 = v)).map (·.2.2)
theorem cst_mem {as : List Arc} {u v c : Nat} (h : cst as u v = some c) : (u, v, c) ∈ as := by
  unfold cst at h
  cases q : as.find? (fun a => decide (a.1 = u ∧ a.2.1 = v)) with
  | none => rw [q] at h; cases h
  | some a =>
    rw [q] at h
    have h := Option.some.inj h
    have h1 := List.find?_some q
    have h1 := of_decide_eq_true h1
    have h2 := List.mem_of_find?_eq_some q
    obtain ⟨a1, a2, a3⟩ := a
    obtain ⟨rfl, rfl⟩ := h1
    have h : a3 = c := h
    rw [← h]; exact h2
def ArcLt (a b : Arc) : Prop := a.1 < b.1 ∨ a.1 = b.1 ∧ a.2.1 < b.2.1
theorem cst_of {as : List Arc} {u v c : Nat} (pw : as.Pairwise fun a b => a.1 < b.1 ∨ a.1 = b.1 ∧ a.2.1 < b.2.1) (h : (u, v, c) ∈ as) : cst as u v = some c := by
  cases q : cst as u v with
  | some c2 =>
    have h2 := cst_mem q
    obtain ⟨i, hi, ei⟩ := List.mem_iff_getElem.mp h
    obtain ⟨j, hj, ej⟩ := List.mem_iff_getElem.mp h2
    rcases Nat.lt_trichotomy i j with l | l | l
    · have := List.pairwise_iff_getElem.mp pw i j hi hj l
      rw [ei, ej] at this
      simp at this
    · subst l
      rw [ei] at ej
      cases ej; rfl
    · have := List.pairwise_iff_getElem.mp pw j i hj hi l
      rw [ei, ej] at this
      simp at this
  | none =>
    unfold cst at q
    have q2 : as.find? (fun a => decide (a.1 = u ∧ a.2.1 = v)) = none := by
      cases r : as.find? (fun a => decide (a.1 = u ∧ a.2.1 = v)) with
      | none => rfl
      | some a => rw [r] at q; cases q
    have := List.find?_eq_none.mp q2 _ h
    simp at this
theorem cst_take {as : List Arc} {i : Nat} {a : Arc} (pw : as.Pairwise fun a b => a.1 < b.1 ∨ a.1 = b.1 ∧ a.2.1 < b.2.1) (e : as[i]? = some a) (u v : Nat) :
    cst (as.take (i + 1)) u v = if u = a.1 ∧ v = a.2.1 then some a.2.2 else cst (as.take i) u v := by
  obtain ⟨hi, ei⟩ := List.getElem?_eq_some_iff.mp e
  have et : as.take (i + 1) = as.take i ++ [a] := by rw [List.take_succ, e]; rfl
  have pw2 := pw.sublist (List.take_sublist (i + 1) as)
  by_cases c : u = a.1 ∧ v = a.2.1
  · rw [if_pos c, c.1, c.2]
    refine cst_of pw2 ?_
    rw [et]
    exact List.mem_append_right _ (List.mem_singleton.mpr rfl)
  · rw [if_neg c, et]
    unfold cst
    rw [List.find?_append]
    have : [a].find? (fun a => decide (a.1 = u ∧ a.2.1 = v)) = none := by
      rw [List.find?_eq_none]
      intro x hx
      rw [List.mem_singleton.mp hx]
      intro z
      have z := of_decide_eq_true z
      exact c ⟨z.1.symm, z.2.symm⟩
    rw [this, Option.or_none]
def stepT (as : List Arc) (acc : Option Nat) (u v : Nat) : Option Nat := match acc with
  | none => none
  | some x => (cst as u v).map (x + ·)
def totK (as : List Arc) (ns : List Nat) : Nat → Option Nat
  | 0 => some 0
  | k + 1 => stepT as (totK as ns k) (ns.getD k 0) (ns.getD (k + 1) 0)
def tot (as : List Arc) (ns : List Nat) : Option Nat := totK as ns (ns.length - 1)
theorem stepT_some {as : List Arc} {acc : Option Nat} {u v t : Nat} (h : stepT as acc u v = some t) : ∃ x c, acc = some x ∧ (u, v, c) ∈ as ∧ t = x + c := by
  unfold stepT at h
  cases acc with
  | none => cases h
  | some x =>
    have h : (cst as u v).map (x + ·) = some t := h
    cases q : cst as u v with
    | none => rw [q] at h; cases h
    | some c =>
      rw [q] at h
      exact ⟨x, c, rfl, cst_mem q, (Option.some.inj h).symm⟩
theorem stepT_of {as : List Arc} {x u v c : Nat} (pw : as.Pairwise fun a b => a.1 < b.1 ∨ a.1 = b.1 ∧ a.2.1 < b.2.1) (h : (u, v, c) ∈ as) : stepT as (some x) u v = some (x + c) := by
  show (cst as u v).map (x + ·) = _
  rw [cst_of pw h]; rfl
theorem totK_low {as : List Arc} {f g : Nat → Option Nat} (B : Bd (· ∈ as) f g) {ns : List Nat} (h0 : ns.getD 0 0 = 0) : ∀ (k t : Nat), totK as ns k = some t → ∃ y, f (ns.getD k 0) = some y ∧ y ≤ t
  | 0, t, h => ⟨0, by rw [h0]; exact B.z.1, Nat.zero_le _⟩
  | k + 1, t, h => by
    obtain ⟨x, c, e, hm, rfl⟩ := stepT_some h
    obtain ⟨y0, e1, l1⟩ := totK_low B h0 k x e
    obtain ⟨y, e2, l2⟩ := B.le hm e1
    exact ⟨y, e2, by omega⟩
theorem totK_pre {as : List Arc} {ns ms : List Nat} : ∀ k, k < ns.length → totK as (ns ++ ms) k = totK as ns k
  | 0, _ => rfl
  | k + 1, h => by
    show stepT as (totK as (ns ++ ms) k) _ _ = stepT as (totK as ns k) _ _
    rw [totK_pre k (by omega)]
    have e : ∀ j, j < ns.length → (ns ++ ms).getD j 0 = ns.getD j 0 := fun j hj => by
      rw [List.getD_eq_getElem?_getD, List.getD_eq_getElem?_getD, List.getElem?_append_left hj]
    rw [e k (by omega), e (k + 1) h]
theorem tot_snoc {as : List Arc} {ns : List Nat} (u v : Nat) (hl : 0 < ns.length) (hu : ns.getD (ns.length - 1) 0 = u) : tot as (ns ++ [v]) = stepT as (tot as ns) u v := by
  unfold tot
  rw [List.length_append]
  show totK as (ns ++ [v]) (ns.length + 1 - 1) = _
  obtain ⟨m, hm⟩ : ∃ m, ns.length = m + 1 := ⟨ns.length - 1, by omega⟩
  rw [hm] at hu ⊢
  show stepT as (totK as (ns ++ [v]) m) _ _ = stepT as (totK as ns m) u v
  rw [totK_pre m (by omega)]
  have e1 : (ns ++ [v]).getD m 0 = u := by
    rw [List.getD_eq_getElem?_getD, List.getElem?_append_left (by omega), ← List.getD_eq_getElem?_getD]; exact hu
  have e2 : (ns ++ [v]).getD (m + 1) 0 = v := by
    rw [List.getD_eq_getElem?_getD, List.getElem?_append_right (by omega), hm]
    simp
  rw [e1, e2]
def mids (b : Nat → Bool) (n : Nat) : List Nat := (List.range n).filterMap fun k => if b k = true then some (k + 1) else none
theorem mids_succ (b : Nat → Bool) (n : Nat) : mids b (n + 1) = mids b n ++ if b n = true then [n + 1] else [] := by
  unfold mids
  rw [List.range_succ, List.filterMap_append]
  congr 1
  by_cases h : b n = true
  · rw [if_pos h]; simp [h]
  · rw [if_neg h]; simp [h]
theorem mids_congr {b b' : Nat → Bool} : ∀ n, (∀ k, k < n → b k = b' k) → mids b n = mids b' n
  | 0, _ => rfl
  | n + 1, h => by rw [mids_succ, mids_succ, mids_congr n (fun k hk => h k (by omega)), h n (by omega)]
theorem mids_len (b : Nat → Bool) : ∀ n, (mids b n).length ≤ n
  | 0 => Nat.le_refl _
  | n + 1 => by
    rw [mids_succ, List.length_append]
    have := mids_len b n
    split
    · show _ + 1 ≤ _; omega
    · show _ + 0 ≤ _; omega
def nodesOf (b : Nat → Bool) (v : Nat) : List Nat := 0 :: (mids b (v - 1) ++ [v])
theorem nodes_0 (b : Nat → Bool) (v : Nat) : (nodesOf b v).getD 0 0 = 0 := rfl
theorem nodes_len (b : Nat → Bool) (v : Nat) : (nodesOf b v).length = (mids b (v - 1)).length + 2 := by
  show (mids b (v - 1) ++ [v]).length + 1 = _
  rw [List.length_append]; rfl
theorem nodes_last (b : Nat → Bool) (v : Nat) : (nodesOf b v).getD ((nodesOf b v).length - 1) 0 = v := by
  rw [nodes_len]
  show (mids b (v - 1) ++ [v]).getD (mids b (v - 1)).length 0 = v
  rw [List.getD_eq_getElem?_getD, List.getElem?_append_right (Nat.le_refl _)]
  simp
/-- the way to v by the way to u -/
def byU (b : Nat → Bool) (u : Nat) : Nat → Bool := fun k => if k + 1 < u then b k else decide (k + 1 = u)
theorem mids_by (b : Nat → Bool) (u : Nat) (hu : u ≠ 0) : ∀ j, mids (byU b u) (u + j) = mids b (u - 1) ++ [u]
  | 0 => by
    obtain ⟨m, rfl⟩ : ∃ m, u = m + 1 := ⟨u - 1, by omega⟩
    rw [Nat.add_zero, mids_succ, if_pos (by unfold byU; rw [if_neg (by omega)]; exact decide_eq_true rfl), mids_congr m (b' := b) fun k hk => by unfold byU; rw [if_pos (by omega)]]
    rfl
  | j + 1 => by
    show mids (byU b u) (u + j + 1) = _
    rw [mids_succ, mids_by b u hu j, if_neg (by unfold byU; rw [if_neg (by omega)]; exact fun z => by have := of_decide_eq_true z; omega), List.append_nil]
theorem nodes_by (b : Nat → Bool) {u v : Nat} (hu : u ≠ 0) (h : u < v) : nodesOf (byU b u) v = nodesOf b u ++ [v] := by
  unfold nodesOf
  obtain ⟨j, rfl⟩ : ∃ j, v = u + j + 1 := ⟨v - u - 1, by omega⟩
  rw [show u + j + 1 - 1 = u + j by omega, mids_by b u hu]
  rfl
theorem mids_false : ∀ n, mids (fun _ => false) n = []
  | 0 => rfl
  | n + 1 => by rw [mids_succ, mids_false n]; rfl
theorem tot_two {as : List Arc} {v : Nat} : tot as [0, v] = stepT as (some 0) 0 v := rfl
theorem tot_best {as : List Arc} {f g : Nat → Option Nat} (B : Bd (· ∈ as) f g) (up : ∀ a ∈ as, a.1 < a.2.1) (pw : as.Pairwise fun a b => a.1 < b.1 ∨ a.1 = b.1 ∧ a.2.1 < b.2.1) :
    ∀ (n v : Nat), v ≤ n → v ≠ 0 → ∀ y, f v = some y → ∃ b, tot as (nodesOf b v) = some y
  | 0, v, h, hv, _, _ => absurd (Nat.le_zero.mp h) hv
  | n + 1, v, h, hv, y, e => by
    obtain ⟨u, c, x, h1, h2, h3, h4, _⟩ := B.s v y hv e
    have huv : u < v := up _ h2
    by_cases hu : u = 0
    · subst hu
      refine ⟨fun _ => false, ?_⟩
      unfold nodesOf
      rw [mids_false]
      show tot as [0, v] = _
      rw [tot_two, B.z.1] at *
      have := Option.some.inj h3
      rw [stepT_of pw h2, h4, this]
    · obtain ⟨b, hb⟩ := tot_best B up pw n u (by omega) hu x h3
      refine ⟨byU b u, ?_⟩
      rw [nodes_by b hu huv, tot_snoc u v (by rw [nodes_len]; omega) (nodes_last b u), hb, stepT_of pw h2, h4]
/-- masks -/
def maskOf : Nat → (Nat → Bool) → Nat
  | 0, _ => 0
  | n + 1, b => (if b 0 = true then 1 else 0) + 2 * maskOf n (fun k => b (k + 1))
theorem mask_lt : ∀ (n : Nat) (b : Nat → Bool), maskOf n b < 2 ^ n
  | 0, _ => Nat.one_pos
  | n + 1, b => by
    have := mask_lt n (fun k => b (k + 1))
    show (if b 0 = true then 1 else 0) + 2 * maskOf n (fun k => b (k + 1)) < _
    rw [Nat.pow_succ]
    split <;> omega
def bitOf (m k : Nat) : Bool := decide (m / 2 ^ k % 2 = 1)
theorem mask_bit : ∀ (n : Nat) (b : Nat → Bool) (k : Nat), k < n → bitOf (maskOf n b) k = b k
  | 0, _, _, h => absurd h (Nat.not_lt_zero _)
  | n + 1, b, 0, _ => by
    show decide (((if b 0 = true then 1 else 0) + 2 * maskOf n (fun k => b (k + 1))) / 2 ^ 0 % 2 = 1) = b 0
    rw [Nat.pow_zero, Nat.div_one]
    cases h : b 0 with
    | true => exact decide_eq_true (by rw [if_pos rfl]; omega)
    | false => exact decide_eq_false (by rw [if_neg (by simp)]; omega)
  | n + 1, b, k + 1, h => by
    have ih := mask_bit n (fun k => b (k + 1)) k (by omega)
    show decide (((if b 0 = true then 1 else 0) + 2 * maskOf n (fun k => b (k + 1))) / 2 ^ (k + 1) % 2 = 1) = b (k + 1)
    have e : ((if b 0 = true then 1 else 0) + 2 * maskOf n (fun k => b (k + 1))) / 2 ^ (k + 1) = maskOf n (fun k => b (k + 1)) / 2 ^ k := by
      rw [show 2 ^ (k + 1) = 2 * 2 ^ k by rw [Nat.pow_succ, Nat.mul_comm], ← Nat.div_div_eq_div_mul]
      congr 1
      split <;> omega
    rw [e]
    exact ih
theorem nodes_mask (b : Nat → Bool) (v : Nat) : nodesOf (bitOf (maskOf (v - 1) b)) v = nodesOf b v := by
  unfold nodesOf
  rw [mids_congr (v - 1) (fun k hk => mask_bit (v - 1) b k hk)]
end Vf

set_option Elab.async false
set_option linter.all false
set_option maxRecDepth 100000
set_option maxHeartbeats 4000000
namespace Vf
open PySem PySem.Spec PyProof.Rows L2
/-! ### dict comprehensions whose keys are tuples of ints and texts -/
/-- one pair put into the dict at D that is being made: y the key, z the value -/
def PutT (D : Addr) (y z : V) (H : Hp) (N : Hp → Prop) : Prop :=
  ∃ (kvs : List (List Key × V)) (k : List Key) (b : Addr), y = .ref b ∧ H b = some (.tup (k.map kV)) ∧ H D = some (.dT kvs) ∧ kvs.length < sizeLine ∧ N (upd H D (.dT (putK kvs k z)))
theorem put_runs {Y : Cx} {ps : List (Addr × Obj)} {τ : L2.St} {H : Hp} {t : Shared} {D : Addr} {y z : V} {u r : Value} {N : Hp → Prop} {F : Value → Shared → Prop} (few : Y.A.units < cLine) (I : Inv Y ps τ H t) (ky : RelV y u) (kz : RelV z r) (h : PutT D y z H N) :
    wpAny (model Y.prog Y.w) Y.A (dictSet D u r) (fun _ t' => ∃ H', Inv Y ps τ H' t' ∧ N H') F t := by
  obtain ⟨kvs, k, b, ey, eb, eD, hl, hN⟩ := h
  subst ey
  obtain rfl : u = Value.ref b := ky
  obtain ⟨h1, h2, xs, rel, dd⟩ := dt_of I.hok eD
  have lx : xs.length ≤ sizeLine := (Paired.length rel) ▸ h1
  have lp : (putK kvs k z).length ≤ sizeLine := Nat.le_trans (length_putK kvs k z) hl
  refine wpAny_dictSet_heap (hsz := lx) few (key_of I.hok eb) dd fun h' d' same => ⟨_, ?_, hN⟩
  obtain ⟨o, es, ep, g1, g2, g3, g4, _, g5⟩ := d'
  refine d_write I (eD ▸ True.intro) same ⟨o, g1⟩ ⟨lp, h2, _, (rel.put k eb kz).keeps fun c ys ec => ?_, o, es, ep, g1, g2, g3, g4, g5⟩
  exact (upd_ne (ne_of ec eD (fun z => nomatch z))).trans ec
section
variable {X : Cx}
/-- {k: v for target in iter if ..}, keys tuples: D the new dict -/
def tDcT (wi : TI) (g : TG) (tt : TT) (tk tv : TE) (own : List Nat) : TE := fun σ H Q => wi σ H fun J Ha => ∀ D, Ha D = none →
  ∃ W : Nat → Nat → Hp → Prop, (∃ m, W 0 m (upd Ha D (.dT []))) ∧ ∀ i m Hb, W i m Hb → (J.stop i Hb ∧ Q (.ref D) Hb) ∨
    (J.go i Hb ∧ ∃ N : Hp → Prop, (∀ Hc, N Hc → ∃ m', m' < m ∧ W (i + 1) m' Hc) ∧ ∀ x Hc, J.yld i Hb x Hc →
      g x (wipe σ own) Hc fun σ2 H2 => wipe σ2 own = wipe σ own ∧ tt σ2 H2 fun b H3 => if b = true then tk σ2 H3 fun y H4 => tv σ2 H4 fun z H5 => PutT D y z H5 N else N H3)
/-- the block's promise of each part, wherever the block's own room comes to stand -/
abbrev InBlkD (X : Cx) (scope : Scope) (R : Cx → Prop) : Prop := ∀ (s : Shared) (H : Hp) (C : Addr) (cl : List (Str × Addr)) (fp : List Addr), R (X.blk s H scope (compEnvC scope cl C X.env) fp)
theorem dcT_core {pins : List (Addr × Obj)} {s : Shared} {σ : L2.St} {H : Hp} {Q : VK} {kx vx tg iter : Expr} {ifs : List Expr} {scope : Scope} {own : List (Str × Nat)} {pos pos' : Pos} {wi : TI} {g : TG} {tt : TT} {tk tv : TE} {use : Option (Value → Sem Unit)} {Qf : Value → Shared → Prop}
    (calm : X.calm = true) (few : X.A.units < cLine) (nd : X.N.Nodup) (I : Inv X pins σ H s) (pi : PI X tg iter wi) (bk : BlkOk X.N X.env.scope scope own)
    (pg : InBlkD X scope fun Y => PG Y tg g) (pt : InBlkD X scope fun Y => PTs Y ifs tt) (pk : InBlkD X scope fun Y => PE Y kx tk) (pv : InBlkD X scope fun Y => PE Y vx tv) (fold : ∀ x, foldedSetIterable iter X.env x = pure x)
    (h : tDcT wi g tt tk tv (own.map (·.2)) σ H Q)
    (leave : ∀ (D C : Addr) t ms H', Inv X pins σ H' t → Q (.ref D) H' → t.heap.Ns C ms → FpOk X pins H' C → compPost (model X.prog X.w) X.A X.xe use Qf (.ref D) C (.ok .next) t) :
    wpAny (model X.prog X.w) X.A (comprehension (.DictComp kx vx [⟨tg, iter, ifs, 0⟩] scope pos) scope X.env pos' newDict false (eval iter X.env) use) Qf X.xe s := by
  have has : ∀ y ∈ scope.names, y.2 = .free → ∃ c, X.env.cells.lookup y.1 = some c := by
    intro y hy e
    exact (bk.free y hy e).elim (fun k => I.ok.has _ (.inl k)) (fun k => I.ok.has _ (.inr k))
  refine wpAny_comprehension_free (use := use) rfl fold (closure_ok has) bk.kind (fun y hy e => (bk.uniq y hy).trans (congrArg some e)) ?_
  refine thn (pi.run pins s σ H _ I h) fun v0 s1 w1 => thn w1 fun v1 s2 w2 => ?_
  obtain ⟨it, fp, tn, J, Ha, rfl, Ia, T, st, fs, q⟩ := w2
  refine wpAny_newObj_type (newEnv_comp ?_)
  -- the new dict stands at D
  obtain ⟨D, eD⟩ : ∃ D, D = s2.heap.objs.size := ⟨_, rfl⟩
  obtain ⟨W, ⟨m0, w0⟩, turn⟩ := q D (Ia.hok.fresh (Nat.le_of_eq eD.symm))
  obtain ⟨s3, es3⟩ : ∃ s3 : Shared, s3 = { s2 with heap := s2.heap.push { cls := .type "dict", data := .dict #[] } } := ⟨_, rfl⟩
  have eh : s3.heap = s2.heap.push { cls := .type "dict", data := .dict #[] } := by rw [es3]
  rw [← es3, ← eD]
  have Ib : Inv X pins σ (upd Ha D (.dT [])) s3 := by
    rw [es3, eD]
    exact Ia.laid (t' := s2.toks) (fun b o e => Heap.get?_push_of_some _ e) (Nat.le_refl _) (dt_empty s2.heap Ia.big)
  have lt : ∀ b ∈ fp, b < D := fun b hb => by
    have ⟨o, e, _⟩ := T.obj _ _ st b hb
    rw [eD]; exact Heap.lt_size e
  have fd : ∀ b ∈ fp, (upd Ha D (.dT [])) b = none := fun b hb => (upd_ne (Nat.ne_of_lt (lt b hb))).trans (fs b hb).1
  have f3 : ∀ b ∈ fp, FpOk X pins (upd Ha D (.dT [])) b ∧ b < s3.heap.objs.size := fun b hb =>
    ⟨⟨fd b hb, (fs b hb).2⟩, by rw [eh, Heap.size_push, ← eD]; exact Nat.lt_succ_of_lt (lt b hb)⟩
  have st3 : tn 0 s3.heap := T.keep _ _ _ st fun b _ o e => by rw [eh]; exact Heap.get?_push_of_some _ e
  have Ic := block_start Ib bk nd f3
  have G := pg s3 (upd Ha D (.dT [])) s3.heap.objs.size (cellsFrom (s3.heap.objs.size + 1) scope.names (cloFrom X.env.cells scope.names [])) fp
  have S := pt s3 (upd Ha D (.dT [])) s3.heap.objs.size (cellsFrom (s3.heap.objs.size + 1) scope.names (cloFrom X.env.cells scope.names [])) fp
  have Kx := pk s3 (upd Ha D (.dT [])) s3.heap.objs.size (cellsFrom (s3.heap.objs.size + 1) scope.names (cloFrom X.env.cells scope.names [])) fp
  have Vx := pv s3 (upd Ha D (.dT [])) s3.heap.objs.size (cellsFrom (s3.heap.objs.size + 1) scope.names (cloFrom X.env.cells scope.names [])) fp
  obtain ⟨ce, ece⟩ : ∃ ce, ce = compEnvC scope (cellsFrom (s3.heap.objs.size + 1) scope.names (cloFrom X.env.cells scope.names [])) s3.heap.objs.size X.env := ⟨_, rfl⟩
  have cl : ce.locals = s3.heap.objs.size := by rw [ece]; rfl
  obtain ⟨s4, es4⟩ : ∃ s4 : Shared, s4 = { s3 with heap := pushCells (s3.heap.push { cls := .type "dict", data := .dict #[] }) scope.names } := ⟨_, rfl⟩
  rw [← ece] at Ic G S Kx Vx
  rw [← es4] at Ic
  have st4 : tn 0 s4.heap := T.keep _ _ _ st3 fun b _ o e => by rw [es4]; exact pushCells_keeps _ _ _ _ (Heap.get?_push_of_some _ e)
  have pinned : ∀ {τ : L2.St} {H' : Hp} {t : Shared}, Inv (X.blk s3 (upd Ha D (.dT [])) scope ce fp) [] τ H' t → (∀ b ∈ fp, H' b = none) → ∀ b ∈ fp, FpOk (X.blk s3 (upd Ha D (.dT [])) scope ce fp) [] H' b := by
    intro τ H' t I' free b hb
    have e1 := I'.ok.exf b hb
    exact ⟨free b hb, e1.1, I'.ok.exfs b hb, .inl hb, fun x c e => e1.2 x c e, fun p hp => by cases hp⟩
  -- what the loop keeps at its turn number i
  let Keep : Nat → Shared → Prop := fun n t => ∃ i H', Inv (X.blk s3 (upd Ha D (.dT [])) scope ce fp) [] (wipe σ (own.map (·.2))) H' t ∧ tn i t.heap ∧ (∀ b ∈ fp, H' b = none) ∧ W i n H'
  have runs : codeAny (model X.prog X.w) X.A (.compLoop (.DictComp kx vx [⟨tg, iter, ifs, 0⟩] scope pos) 0 (.ref it) (.ref D) ce)
      (compPost (model X.prog X.w) X.A X.xe use Qf (.ref D) s3.heap.objs.size) s4 := by
    refine compLoop_anyD Keep ?_ m0 ⟨0, _, Ic, st4, fd, w0⟩
    intro n t1 ⟨i, Hb, I1, z1, free, w1⟩
    rcases turn i n Hb w1 with ⟨stop, hQ⟩ | ⟨go, N, less, step⟩
    · -- no further thing: back in the def
      refine thnF (T.done (X.blk s3 (upd Ha D (.dT [])) scope ce fp) rfl rfl rfl calm i [] t1 _ Hb (fun _ _ => False) I1 (pinned I1 free) z1 stop) fun r t2 ⟨er, I2⟩ => ?_
      subst er
      have Iz : Inv X pins σ Hb t2 := Ib.call' (ch := fp) I2.os I2.base I2.hok I2.bare fun b hb =>
        have f := (f3 b hb).1.2
        ⟨f.2.2.1, f.1, f.2.2.2.1, f.2.2.2.2⟩
      obtain ⟨ms, hns, _⟩ := I2.loc
      have hns : t2.heap.Ns ce.locals ms := hns
      have nl : Hb ce.locals = none := I2.free
      rw [cl] at hns nl
      exact leave D _ t2 ms Hb Iz hQ hns (Ib.fpOk (Nat.le_refl _) nl)
    · refine thnF (T.item (X.blk s3 (upd Ha D (.dT [])) scope ce fp) rfl rfl rfl calm i [] t1 _ Hb (fun _ _ => False) I1 (pinned I1 free) z1 go) fun r t2 ⟨u, er, a2⟩ => ?_
      subst er
      refine thnF a2 fun _ t3 ⟨x, Hc, I3, rx, y3, z3, free3⟩ => ?_
      refine thnF (G.run _ t3 _ Hc x u _ (I3.pinned (pinned I3 free3) (T.obj _ _ z3)) rx (step x Hc y3)) fun _ t4 ⟨σ2, H2, I4, ew, q4⟩ => ?_
      refine thnF (S.run _ t4 σ2 H2 _ I4 q4) fun b t5 ⟨H3, I5, q5⟩ => ?_
      -- how a turn ends, in the room of the block
      have close : ∀ {t : Shared} {H' : Hp}, Inv (X.blk s3 (upd Ha D (.dT [])) scope ce fp) ([] ++ pinsAt fp t3.heap) σ2 H' t → N H' → ∃ m, m < n ∧ Keep m t := by
        intro t H' I' hN
        obtain ⟨m', hm, w'⟩ := less H' hN
        have still : ∀ b ∈ fp, ∀ o, t3.heap.get? b = some o → t.heap.get? b = some o ∧ H' b = none := by
          intro b hb o e
          have p := I'.pin (b, o) (List.mem_append_right _ (List.mem_append_right _ (mem_pinsAt hb e)))
          exact ⟨p.1, p.2.1⟩
        have len : (wipe σ (own.map (·.2))).length = σ2.length := by rw [← ew]; exact wipe_length _ _
        refine ⟨m', hm, i + 1, H', (I'.unpinned (pins := [])).weak len fun j v e => ?_, T.keep _ _ _ z3 fun b hb o e => (still b hb o e).1, fun b hb => ?_, w'⟩
        · rw [← ew] at e; exact (wipe_some e).1
        · have ⟨o, e, _⟩ := T.obj _ _ z3 b hb
          exact (still b hb o e).2
      cases b with
      | false => exact close I5 q5
      | true =>
        refine thnF (Kx.run _ t5 σ2 H3 _ I5 q5) fun ku t6 ⟨y, H4, I6, ry, q6⟩ => ?_
        refine thnF (Vx.run _ t6 σ2 H4 _ I6 q6) fun vu t7 ⟨z, H5, I7, rz, q7⟩ => ?_
        exact thn (put_runs (Y := X.blk s3 (upd Ha D (.dT [])) scope ce fp) few I7 ry rz q7) fun _ t8 ⟨H6, I8, n8⟩ => close I8 n8
  have whole := codeAny_compStart_dict runs (T.self X.A 0 _ _ _ st4 runs)
  rw [ece, es4] at whole
  exact whole
/-- as a value -/
theorem pe_dcT {kx vx tg iter : Expr} {ifs : List Expr} {scope : Scope} {own : List (Str × Nat)} {pos : Pos} {wi : TI} {g : TG} {tt : TT} {tk tv : TE} (calm : X.calm = true) (few : X.A.units < cLine) (nd : X.N.Nodup) (pi : PI X tg iter wi) (bk : BlkOk X.N X.env.scope scope own)
    (pg : InBlkD X scope fun Y => PG Y tg g) (pt : InBlkD X scope fun Y => PTs Y ifs tt) (pk : InBlkD X scope fun Y => PE Y kx tk) (pv : InBlkD X scope fun Y => PE Y vx tv) (fold : ∀ x, foldedSetIterable iter X.env x = pure x := by intro _; rfl) :
    PE X (.DictComp kx vx [⟨tg, iter, ifs, 0⟩] scope pos) (tDcT wi g tt tk tv (own.map (·.2))) := by
  constructor
  intro pins s σ H Q I h
  rw [arm_eval_DictComp]
  refine dcT_core calm few nd I pi bk pg pt pk pv fold h fun D C t ms H' I' hQ hns f => ⟨ms, hns, fun h2 sb => ?_⟩
  exact ⟨.ref D, H', I'.turned (t' := t.toks) (fun b o hb e => (sb.2 b hb).trans e) f.1 f.2.1 f.2.2.2.1 f.2.2.2.2.1 f.2.2.2.2.2, rfl, hQ⟩
/-- name = {..} on one line, the name a local that no inner block reads -/
theorem ps_setDcT {i : Nat} {y : Str} {py : Pos} {kx vx tg iter : Expr} {ifs : List Expr} {scope : Scope} {own : List (Str × Nat)} {pos spos : Pos} {wi : TI} {g : TG} {tt : TT} {tk tv : TE} (calm : X.calm = true) (few : X.A.units < cLine) (nd : X.N.Nodup) (iy : X.N[i]? = some y) (ly : X.env.scope.names.lookup y = some .local)
    (sw : swapsWith (.DictComp kx vx [⟨tg, iter, ifs, 0⟩] scope pos) (some (.Name y py)) spos.line X.env = pure true) (pi : PI X tg iter wi) (bk : BlkOk X.N X.env.scope scope own)
    (pg : InBlkD X scope fun Y => PG Y tg g) (pt : InBlkD X scope fun Y => PTs Y ifs tt) (pk : InBlkD X scope fun Y => PE Y kx tk) (pv : InBlkD X scope fun Y => PE Y vx tv) (fold : ∀ x, foldedSetIterable iter X.env x = pure x := by intro _; rfl) :
    PS X (.Assign [.Name y py] (.DictComp kx vx [⟨tg, iter, ifs, 0⟩] scope pos) spos) (tAsg (tDcT wi g tt tk tv (own.map (·.2))) (gName i)) := by
  constructor
  intro pins s σ H E I h
  have h : tDcT wi g tt tk tv (own.map (·.2)) σ H (fun x H1 => gName i x σ H1 E.nx) := h
  rw [exec_Assign_Name_used _ _ _ _ sw]
  refine wpAny_bind (wpAny_standAt (wpAny_bind ?_))
  have main := dcT_core (pos := pos) (pos' := firstIterPos [⟨tg, iter, ifs, 0⟩] pos) (use := some (assign (.Name y py) X.env)) (Qf := fun _ t => SP X pins E .next t) calm few nd I pi bk pg pt pk pv fold h ?_
  · exact wpAny_bind (thn main fun _ t hq => wpAny_pure (wpAny_pure hq))
  · intro D C t ms H' I' hQ hns f
    show wpAny (model X.prog X.w) X.A (assign (.Name y py) X.env (.ref D)) _ _ _
    refine wpAny_assign_Name (store_ok2 (v := V.ref D) I' nd iy (.inl ly) rfl (fun t2 I2 ⟨a, sb, ha⟩ => ?_) (.inr ly))
    have ne : C ≠ a := ha.elim (fun z => z ▸ f.2.1) fun z e => f.2.2.2.2.1 y a z e.symm
    refine ⟨ms, hns.sameBut sb ne, fun h3 sb3 => ⟨_, H', ?_, hQ⟩⟩
    exact I2.turned (t' := t2.toks) (fun b o hb e => (sb3.2 b hb).trans e) f.1 f.2.1 f.2.2.2.1 f.2.2.2.2.1 f.2.2.2.2.2
theorem sw_dict {kx vx : Expr} {gs : List Comprehension} {scope : Scope} {pos py : Pos} {y : Str} {l : Nat} {env : Env} (fn : env.scope.kind = .function) (loc : env.scope.names.lookup y = some .local) (line : (py.line == pos.line) = true)
    (none : (scope.names.any fun (n, k) => n == y && (k == .local || k == .cell)) = false) : swapsWith (.DictComp kx vx gs scope pos) (some (.Name y py)) l env = pure true := by
  have k1 : env.kindOf y = some .local := loc
  have k2 : env.blockKind = .function := by unfold Env.blockKind; rw [fn]; rfl
  unfold swapsWith
  simp only [k1, k2, none, line, Expr.pos]
  rfl
end
/-- over any walk: Pv by the turn and the heap -/
theorem dcT_it {J : It} {n : Nat} {G : Hp → Prop} {Y : Nat → Hp → V → Hp → Prop} (w : Walk J n G Y) {g : TG} {tt : TT} {tk tv : TE} {own : List Nat} {σ : L2.St} {Ha : Hp} {D : Addr} {Qd : Hp → Prop} (Pv : Nat → Hp → Prop) (start : Pv 0 (upd Ha D (.dT []))) (stays : ∀ i H, i ≤ n → Pv i H → G H)
    (turn : ∀ i x H H', i < n → Pv i H → Y i H x H' → g x (wipe σ own) H' fun σ2 H2 => wipe σ2 own = wipe σ own ∧ tt σ2 H2 fun b H3 => if b = true then tk σ2 H3 fun y H4 => tv σ2 H4 fun z H5 => PutT D y z H5 (Pv (i + 1)) else Pv (i + 1) H3)
    (after : ∀ H, Pv n H → Qd H) :
    ∃ W : Nat → Nat → Hp → Prop, (∃ m, W 0 m (upd Ha D (.dT []))) ∧ ∀ i m Hb, W i m Hb → (J.stop i Hb ∧ Qd Hb) ∨
      (J.go i Hb ∧ ∃ N : Hp → Prop, (∀ Hc, N Hc → ∃ m', m' < m ∧ W (i + 1) m' Hc) ∧ ∀ x Hc, J.yld i Hb x Hc →
        g x (wipe σ own) Hc fun σ2 H2 => wipe σ2 own = wipe σ own ∧ tt σ2 H2 fun b H3 => if b = true then tk σ2 H3 fun y H4 => tv σ2 H4 fun z H5 => PutT D y z H5 N else N H3) := by
  refine ⟨fun i m H => m + i = n ∧ Pv i H, ⟨n, by omega, start⟩, fun i m Hb h => ?_⟩
  have ⟨e, p⟩ := h
  have ok := stays i Hb (by omega) p
  rcases Nat.lt_or_ge i n with lt | ge
  · refine .inr ⟨w.goes i Hb lt ok, Pv (i + 1), fun Hc q => ⟨m - 1, by omega, by omega, q⟩, fun x Hc y => turn i x Hb Hc lt p (w.yields i Hb x Hc lt ok y)⟩
  · obtain rfl : i = n := by omega
    exact .inl ⟨w.stops Hb ok, after Hb p⟩
end Vf

set_option Elab.async false
set_option linter.all false
set_option maxRecDepth 100000
set_option maxHeartbeats 4000000
namespace Vf
open PySem PySem.Spec PyProof.Rows L2 TL
/-! ### {k: v}, the key a tuple of ints and texts -/
def tDispT (tk tv : TE) : TE := fun σ H Q => ∀ p, H p = none → tk σ (upd H p (.dT [])) fun x H1 => tv σ H1 fun y H2 => H2 p = some (.dT []) ∧ ∃ (k : List Key) (b : Addr), x = .ref b ∧ H2 b = some (.tup (k.map kV)) ∧ Q (.ref p) (upd H2 p (.dT (putK [] k y)))
theorem pe_dispT {X : Cx} {pos : Pos} {ke ve : Expr} {tk tv : TE} (few : X.A.units < cLine) (hk : PE X ke tk) (hv : PE X ve tv) : PE X (.Dict [some ke] [ve] pos) (tDispT tk tv) := by
  refine ⟨fun pins s σ H Q I q => ?_⟩
  have hn := I.hok.fresh (Nat.le_refl s.heap.objs.size)
  have I1 := I.laid (a := s.heap.objs.size) (o := .dT []) (h' := s.heap.push { cls := .type "dict", data := .dict #[] }) (t' := s.toks) (fun _ _ q => Heap.get?_push_of_some _ q) (Nat.le_refl _) (dt_empty s.heap I.big)
  have hpp : PPs X pos [some ke] [ve] [(tk, tv)] := pps_cons hk hv pps_nil
  rw [arm_eval_Dict, zip_pairTrees [some ke] [ve] X.env pos rfl rfl, dictDisplay_pairs (pairTrees [some ke] [ve] X.env pos) (by simp [pairTrees]) (by show 1 < 17; decide)]
  refine wpAny_bind (wpAny_standAt (wpAny_bind (wpAny_subDictH (knd := tupleKind (mixKind X.prog X.w)) few (by show 1 ≤ 15; decide) ?_)))
  refine thn (hpp.run pins _ σ _ (fun ps H2 => match ps with
    | [(x, y)] => H2 s.heap.objs.size = some (.dT []) ∧ ∃ (k : List Key) (b : Addr), x = .ref b ∧ H2 b = some (.tup (k.map kV)) ∧ Q (.ref s.heap.objs.size) (upd H2 s.heap.objs.size (.dT (putK [] k y)))
    | _ => False) I1 (q _ hn)) fun ws s2 ⟨ps, H2, I2, rel, h⟩ => ?_
  match ps, h with
  | [(x, y)], h =>
    obtain ⟨eD, k, b, ex, eb, hQ⟩ := h
    subst ex
    cases rel with
    | @cons p0 w0 ps0 ws0 hrel hrest =>
    cases hrest
    obtain ⟨u, r⟩ := w0
    obtain ⟨hu, hr⟩ := hrel
    obtain rfl : u = Value.ref b := hu
    obtain ⟨h1, h2, xs, rk, dd⟩ := dt_of I2.hok eD
    cases rk
    refine ⟨[(k, b, r)], ⟨rfl, rfl, key_of I2.hok eb, trivial⟩, dd, fun h' tk d' same => wpAny_pure ?_⟩
    obtain ⟨o, es, ep, g1, g2, g3, g4, _, g5⟩ := d'
    refine ⟨.ref s.heap.objs.size, upd H2 s.heap.objs.size (.dT (putK [] k y)), d_write I2 (eD ▸ True.intro) same ⟨o, g1⟩ ⟨by show 1 ≤ sizeLine; decide, h2, _, ((show KT H2 [] [] from .nil).put k eb hr).keeps fun c ys ec => ?_, o, es, ep, g1, g2, g3, g4, g5⟩, rfl, hQ⟩
    exact (upd_ne (ne_of ec eD (fun z => nomatch z))).trans ec
  | [], h => exact h.elim
  | _ :: _ :: _, h => exact h.elim
end Vf

set_option Elab.async false
set_option linter.all false
set_option maxRecDepth 100000
set_option maxHeartbeats 4000000
namespace Vf
open PySem PySem.Spec PyProof.Rows L2 TL
/-! ### rows of cells in another order, slices of tuples -/
/-- the cells of a row that holds the same things -/
theorem cells_perm {H : Hp} {us ws : List V} {ds : List Arc} (lv : LV (ArcV H) ws ds) (hp : us.Perm ws) : ∃ ds' : List Arc, LV (ArcV H) us ds' ∧ (∀ r, r ∈ ds' → r ∈ ds) ∧ (∀ r, r ∈ ds → r ∈ ds') := by
  -- each thing of us is a cell of ds
  have one : ∀ x ∈ us, ∃ r, r ∈ ds ∧ ArcV H x r := by
    intro x hx
    obtain ⟨i, hi, e⟩ := List.mem_iff_getElem.mp (hp.mem_iff.mp hx)
    obtain ⟨r, hr, h⟩ := lv.at (i := i) (x := x) (by rw [List.getElem?_eq_getElem hi, e])
    exact ⟨r, List.mem_of_getElem? hr, h⟩
  have make : ∀ l : List V, (∀ x ∈ l, ∃ r, r ∈ ds ∧ ArcV H x r) → ∃ ds' : List Arc, LV (ArcV H) l ds' ∧ ∀ r, r ∈ ds' → r ∈ ds := by
    intro l
    induction l with
    | nil => exact fun _ => ⟨[], LV.nil, fun _ h => nomatch h⟩
    | cons x l ih =>
      intro h
      obtain ⟨r, hr, hx⟩ := h x List.mem_cons_self
      obtain ⟨ds', h1, h2⟩ := ih fun y hy => h y (List.mem_cons_of_mem _ hy)
      refine ⟨r :: ds', ⟨by rw [List.length_cons, List.length_cons, h1.1], fun i q e => ?_⟩, fun y hy => ?_⟩
      · cases i with
        | zero => exact ⟨x, rfl, by rw [← Option.some.inj e]; exact hx⟩
        | succ i => exact h1.2 i q e
      · rcases List.mem_cons.mp hy with e | e
        · rw [e]; exact hr
        · exact h2 y e
  obtain ⟨ds', h1, h2⟩ := make us one
  refine ⟨ds', h1, h2, fun r hr => ?_⟩
  obtain ⟨i, hi, e⟩ := List.mem_iff_getElem.mp hr
  obtain ⟨x, gx, hx⟩ := lv.2 i r (by rw [List.getElem?_eq_getElem hi, e])
  obtain ⟨j, hj, e2⟩ := List.mem_iff_getElem.mp (hp.mem_iff.mpr (List.mem_of_getElem? gx))
  obtain ⟨r', hr', hx'⟩ := h1.at (i := j) (x := x) (by rw [List.getElem?_eq_getElem hj, e2])
  -- one thing holds one cell
  obtain ⟨b, eb, hb⟩ := hx
  obtain ⟨b', eb', hb'⟩ := hx'
  rw [eb] at eb'
  have := V.ref.inj eb'
  subst this
  rw [hb] at hb'
  have h := HO.tup.inj (Option.some.inj hb')
  have h3 := List.cons.inj h
  have h4 := List.cons.inj h3.2
  have h5 := List.cons.inj h4.2
  have : r = r' := by
    have a1 : r.1 = r'.1 := Int.ofNat.inj (V.int.inj h3.1)
    have a2 : r.2.1 = r'.2.1 := Int.ofNat.inj (V.int.inj h4.1)
    have a3 : r.2.2 = r'.2.2 := Int.ofNat.inj (V.int.inj h5.1)
    exact Prod.ext a1 (Prod.ext a2 a3)
  rw [this]
  exact List.mem_of_getElem? hr'
theorem LV.app {α : Type} {R : V → α → Prop} {vs us : List V} {rs qs : List α} (h : LV R vs rs) (g : LV R us qs) : LV R (vs ++ us) (rs ++ qs) := by
  refine ⟨by rw [List.length_append, List.length_append, h.1, g.1], fun i r e => ?_⟩
  by_cases hi : i < rs.length
  · rw [List.getElem?_append_left hi] at e
    obtain ⟨x, e1, e2⟩ := h.2 i r e
    exact ⟨x, by rw [List.getElem?_append_left (by rw [h.1]; exact hi)]; exact e1, e2⟩
  · rw [List.getElem?_append_right (by omega)] at e
    obtain ⟨x, e1, e2⟩ := g.2 _ r e
    exact ⟨x, by rw [List.getElem?_append_right (by rw [h.1]; omega), h.1]; exact e1, e2⟩
theorem LV.takeN {α : Type} {R : V → α → Prop} {vs : List V} {rs : List α} (n : Nat) (h : LV R vs rs) : LV R (vs.take n) (rs.take n) := by
  refine ⟨by rw [List.length_take, List.length_take, h.1], fun i r e => ?_⟩
  rw [List.getElem?_take] at e
  by_cases c : i < n
  · rw [if_pos c] at e
    obtain ⟨x, e1, e2⟩ := h.2 i r e
    exact ⟨x, by rw [List.getElem?_take, if_pos c]; exact e1, e2⟩
  · rw [if_neg c] at e; cases e
theorem cut_one (xs : List V) : cutV xs none (some 1) = xs.take 1 := by
  unfold cutV
  rw [HT.sIx_none, show (some (1 : Int)) = some ((1 : Nat) : Int) from rfl, HT.sIx_nat, List.drop_zero, Nat.sub_zero]
  cases xs with
  | nil => rfl
  | cons x r => rw [Nat.min_eq_left (by rw [List.length_cons]; omega)]
theorem slA_any {K : PySem.W.Frag} {a : Addr} {xs : List V} {lo hi : Option Int} {H : Hp} {Q : VK} (e : H a = some (.tup xs)) (q : ∀ b H', Same H H' → H' b = some (.tup (cutV xs lo hi)) → Q (.ref b) H') : rSlA K (.ref a) lo hi H Q := by
  refine ⟨a, xs, rfl, SqT.of e, fun ⟨h1, h2⟩ => q a H (Same.refl H) ?_, fun _ p np => q p _ (same_upd (Same.refl H) np) upd_same⟩
  rw [e]
  unfold cutV
  rw [h1, h2, List.drop_zero, Nat.sub_zero, List.take_length]
theorem cut_from1 (xs : List V) : cutV xs (some 1) none = xs.drop 1 := by
  unfold cutV
  rw [HT.sIx_none, show (some (1 : Int)) = some ((1 : Nat) : Int) from rfl, HT.sIx_nat]
  cases xs with
  | nil => rfl
  | cons x r =>
    rw [Nat.min_eq_left (by rw [List.length_cons]; omega)]
    show r.take (r.length + 1 - 1) = r
    rw [Nat.add_sub_cancel, List.take_length]
theorem slA_from {K : PySem.W.Frag} {a : Addr} {xs : List V} {lo : Option Int} {H : Hp} {Q : VK} {σ : L2.St} (e : H a = some (.tup xs)) (q : ∀ b H', Same H H' → H' b = some (.tup (cutV xs lo none)) → Q (.ref b) H') : tNoPart σ H (fun u H3 => rSlA K (.ref a) lo u H3 Q) :=
  slA_any e q
end Vf

set_option Elab.async false
set_option linter.all false
set_option maxRecDepth 100000
set_option maxHeartbeats 4000000
namespace Vf
open PySem PySem.Spec PyProof.Rows L2 TL
/-! ### pairs of numbers as keys; bounds and tails by such keys -/
/-- len, told the frame (for the block of a comprehension) -/
def rLenK (K : PySem.W.Frag) : List V → Hp → VK → Prop := fun xs H Q => ∃ p ys, xs = [V.ref p] ∧ (SqL K H p ys ∨ SqT K H p ys) ∧ Q (V.int (ys.length : Nat)) H
theorem szM {n : Nat} (h : n < 300000) : n < sizeLine := Nat.lt_of_lt_of_le h (by decide)
def FgV (H : Hp) (x : V) (r : Nat × Nat) : Prop := ∃ b, x = .ref b ∧ H b = some (.tup [nV r.1, nV r.2])
theorem FgV.same {H H' : Hp} {x : V} {r : Nat × Nat} (h : FgV H x r) (k : Same H H') : FgV H' x r := by
  obtain ⟨b, e, f⟩ := h
  exact ⟨b, e, k _ _ f⟩
theorem FgV.kt {H H' : Hp} {x : V} {r : Nat × Nat} (h : FgV H x r) (k : ∀ a xs, H a = some (.tup xs) → H' a = some (.tup xs)) : FgV H' x r := by
  obtain ⟨b, e, f⟩ := h
  exact ⟨b, e, k _ _ f⟩
def keyP (x : Nat × Nat) : List Key := [.inl (x.1 : Int), .inl (x.2 : Int)]
theorem keyP_inj {x y : Nat × Nat} (h : keyP x = keyP y) : x = y := by
  injection h with h1 h2
  injection h2 with h2 _
  exact Prod.ext (Int.ofNat.inj (Sum.inl.inj h1)) (Int.ofNat.inj (Sum.inl.inj h2))
def Inj (ps : List (Nat × Nat)) : Prop := ∀ (i j : Nat) (x : Nat × Nat), ps[i]? = some x → ps[j]? = some x → i = j
/-- the dict at D: at the key of each place j what f has for j, told by val -/
def BdT (H : Hp) (D : Addr) (N : Nat) (ps : List (Nat × Nat)) (val : Nat → V) (f : Nat → Option Nat) : Prop := ∃ kvs : List (List Key × V), H D = some (.dT kvs) ∧ kvs.length ≤ N ∧ ∀ j x, ps[j]? = some x → valV kvs (keyP x) = (f j).map val
theorem BdT.keep {H H' : Hp} {D : Addr} {N : Nat} {ps : List (Nat × Nat)} {val : Nat → V} {f : Nat → Option Nat} (h : BdT H D N ps val f) (k : ∀ o, H D = some o → H' D = some o) : BdT H' D N ps val f := by
  obtain ⟨kvs, e, r⟩ := h
  exact ⟨kvs, k _ e, r⟩
theorem BdT.keep' {H : Hp} {D : Addr} {N M : Nat} {ps : List (Nat × Nat)} {val : Nat → V} {f : Nat → Option Nat} (h : BdT H D N ps val f) (l : N ≤ M) : BdT H D M ps val f := by
  obtain ⟨kvs, e, r, v⟩ := h
  exact ⟨kvs, e, Nat.le_trans r l, v⟩
theorem BdT.get {H : Hp} {D b : Addr} {N j : Nat} {ps : List (Nat × Nat)} {val : Nat → V} {f : Nat → Option Nat} {x : Nat × Nat} (h : BdT H D N ps val f) (e : ps[j]? = some x) (eb : H b = some (.tup [nV x.1, nV x.2])) : DGet H D (.ref b) ((f j).map val) := by
  obtain ⟨kvs, e1, _, v⟩ := h
  rw [← v j x e]
  exact DGet.t (k := keyP x) e1 eb
theorem BdT.put {H : Hp} {D b : Addr} {N j : Nat} {ps : List (Nat × Nat)} {val : Nat → V} {f : Nat → Option Nat} {x : Nat × Nat} (h : BdT H D N ps val f) (inj : Inj ps) (hN : N < 299999) (e : ps[j]? = some x) (eb : H b = some (.tup [nV x.1, nV x.2])) (y : Nat) :
    ∃ H', DPut H D (.ref b) (val y) H' ∧ BdT H' D (N + 1) ps val (fset f j y) ∧ ∃ o, H' = upd H D o := by
  obtain ⟨kvs, e1, l, v⟩ := h
  refine ⟨_, DPut.t (k := keyP x) e1 eb (szM (by omega)), ⟨_, upd_same, Nat.le_trans (length_putK _ _ _) (by omega), fun i z ez => ?_⟩, _, rfl⟩
  rw [valV_put]
  by_cases c : i = j
  · subst c
    rw [ez] at e
    rw [Option.some.inj e, if_pos rfl, fset_same]; rfl
  · have cn : ¬ keyP z = keyP x := fun q => c (inj i j x (by rw [← keyP_inj q]; exact ez) e)
    rw [if_neg cn, fset_ne c]
    exact v i z ez
end Vf

set_option Elab.async false
set_option linter.all false
set_option maxRecDepth 100000
set_option maxHeartbeats 4000000
/-! ### enumerate over a tuple -/
namespace PySem
set_option maxHeartbeats 2000000 in
theorem vf_meets {v : Value} {o : Obj} {G : Heap → Prop} (B : Begins v o G) :
    Meets (Builtin.«enumerate.__new__» ⟨[.type "enumerate", v], []⟩)
      (fun _ R s => G s.heap ∧ R (.ok (.ret (.ref (s.heap.push o).objs.size)))
        { s with heap := (s.heap.push o).push { cls := .type "enumerate", data := .fields #[.none, .bool false, .ref s.heap.objs.size, rawInt 0, .none, .none] } }) := by
  refine .of_wp fun prog w A R s h => ?_
  rcases s with ⟨hp, g, d, tk, os⟩
  rcases h with ⟨g1, r1⟩
  have sb := sub_enumerate
  have begins : ∀ {A' : Around} {E : Value → Shared → Prop} {Q : Value → Shared → Prop}, Q (.ref hp.objs.size) ⟨hp.push o, g, d, tk, os⟩ →
      wpAny (model prog w) A' (pyIter v) Q E ⟨hp, g, d, tk, os⟩ := fun q => B.iter prog w _ _ ⟨hp, g, d, tk, os⟩ _ g1 q
  wp_walk using begins
  refine wpAny_stack_any fun st => (wpAny_pure ?_)
  split
  next c _ _ _ _ _ =>
    cases (c == Value.type "enumerate") <;> (wp_walk using begins; exact Exists.intro _ (And.intro rfl r1))
  next => wp_walk using begins; exact Exists.intro _ (And.intro rfl r1)
section
variable {prog : Program} {w : World} {A : Around} {E : Value → Shared → Prop} {s : Shared}
theorem vf_enum {v : Value} {o : Obj} {G : Heap → Prop} {Q : Value → Shared → Prop} (B : Begins v o G) (g1 : G s.heap)
    (h : ∀ h' : Heap, IsEnum h' (s.heap.objs.size + 1) s.heap.objs.size 0 .none → h'.get? s.heap.objs.size = some o →
      (∀ b u, s.heap.get? b = some u → h'.get? b = some u) → Q (.ref (s.heap.objs.size + 1)) { s with heap := h' }) :
    wpAny (model prog w) A (call (.type "enumerate") [v]) Q E s := by
  have zz : (s.heap.push o).objs.size = s.heap.objs.size + 1 := Heap.size_push ..
  have ie : IsEnum ((s.heap.push o).push { cls := .type "enumerate", data := .fields #[.none, .bool false, .ref s.heap.objs.size, rawInt 0, .none, .none] }) (s.heap.objs.size + 1) s.heap.objs.size 0 .none := by
    have q := Heap.get?_push_size (s.heap.push o) (o := { cls := .type "enumerate", data := .fields #[.none, .bool false, .ref s.heap.objs.size, rawInt 0, .none, .none] }) rfl
    rw [zz] at q
    exact q
  refine callType_new F.called_enumerate (by decide) (F.typeCall_enumerate_1 _) (F.newCall_enumerate_1 _)
    (fun obj => F.args_object_init_2 obj _) F.entry_enumerate_new (vf_meets B) (And.intro g1 ?_)
  show _ ∧ _
  rw [zz]
  exact ⟨⟨_, ie, rfl⟩, h _ ie (Heap.get?_push_of_some _ (Heap.get?_push_size _ B.free))
    fun b u x => Heap.get?_push_of_some _ (Heap.get?_push_of_some _ x)⟩
end
end PySem
namespace Vf
open PySem PySem.Spec PyProof.Rows L2 TL
/-- the tuple at a, each item in a new pair with its number -/
def IteT (K : PySem.W.Frag) (a : Addr) : It where
  go := fun i H => ∃ (xs : List V) (x : V), SqT K H a xs ∧ xs[i]? = some x
  yld := fun i H v H' => ∃ (T : Addr) (x : V), v = .ref T ∧ H T = none ∧ H' = upd H T (.tup [.int (i : Nat), x]) ∧ ∀ xs, SqT K H a xs → xs[i]? = some x
  stop := fun i H => ∃ xs : List V, SqT K H a xs ∧ xs.length = i
theorem apart_of {h : Heap} {a b : Addr} {o u : Obj} {m n : String} (ha : h.get? a = some o) (hb : h.get? b = some u) (ca : o.cls = .type m) (cb : u.cls = .type n) (ne : m ≠ n) : a ≠ b := fun e => by
  rw [e, hb] at ha
  have e2 : u = o := Option.some.inj ha
  rw [e2, ca] at cb
  exact ne (by injection cb)
theorem turn_enumT {P : Program} {w : World} {K : PySem.W.Frag} {elts : List Expr} {kk : Nat} {tpos : Pos} (a e it : Addr) :
    Turn P w K (.Tuple elts kk tpos) (IteT K a) [e, it] e (fun i h => (∃ old, IsEnum h e it ((i : Nat) : Int) old) ∧ h.IsTupleIter it a i ∧ e ≠ it) where
  mem := List.mem_cons_self
  obj := fun i h st b hb => by
    obtain ⟨⟨old, ie⟩, ⟨u, hu, _, du⟩, _⟩ := st
    rcases List.mem_cons.mp hb with z | z
    · rw [z]; exact ⟨_, ie, fun v q => nomatch q⟩
    · rw [List.mem_singleton.mp z]; exact ⟨u, hu, fun v q => by rw [du] at q; cases q⟩
  keep := fun i h h' st k => by
    obtain ⟨⟨old, ie⟩, it1, ne⟩ := st
    exact ⟨⟨old, k e List.mem_cons_self _ ie⟩, it1.at fun u q => k it (List.mem_cons_of_mem _ List.mem_cons_self) u q, ne⟩
  item := by
    intro X hP hw hK hc i pins s σ H E I hf st hg
    subst hP hw hK
    obtain ⟨⟨old, ie⟩, it1, ne⟩ := st
    obtain ⟨xs, x, hq, hx⟩ := hg
    obtain ⟨its, rv, p, hz⟩ := I.tuple hq
    obtain ⟨u, hu, ru⟩ := rv.get hx
    have p2 : s.heap.IsTuple a its.toArray := p
    obtain ⟨oa, ga, ca, _⟩ := id p2
    obtain ⟨oi, gi, ci, _⟩ := id it1
    have nai : a ≠ it := apart_of ga gi ca ci (by decide)
    have nea : e ≠ a := apart_of (m := "enumerate") ie ga rfl ca (by decide)
    have hel : e < s.heap.objs.size := Heap.lt_size ie
    have hil : it < s.heap.objs.size := Heap.lt_size gi
    have hil2 : i < its.toArray.size := by
      have := (List.getElem?_eq_some_iff.mp hu).1
      simpa using this
    refine wpAny_pyNext_enum_itemD (Draws.tuple (prog := X.prog) (w := X.w) (A := X.A.in1) (I.ok.hd hc) it a nai its.toArray) ie ⟨it1, p2⟩ hil2 ne ?_ fun y h' tk hy ho hst hT hsz hk => ?_
    · intro hm
      rcases List.mem_cons.mp hm with z | z
      · exact ne z
      · exact nea (List.mem_singleton.mp z)
    have eu : y = u := by
      have h1 : its[i]? = some y := by simpa using hy
      exact Option.some.inj (h1.symm.trans hu)
    subst eu
    refine ⟨_, rfl, wpAny_letOwnedTupleGo_enum (s := { s with heap := h', toks := tk + 1 }) ho fun h2 he2 sb => ?_⟩
    have hT2 : h2.get? s.heap.objs.size = some { cls := .type "tuple", data := .seq #[.int i tk, y] } := (sb.2 _ (Nat.ne_of_gt hel)).trans hT
    have made : ObjOk X.prog X.w (upd H s.heap.objs.size (.tup [.int (i : Nat), x])) h2 s.heap.objs.size (.tup [.int (i : Nat), x]) :=
      ⟨(by show 2 ≤ sizeLine; decide), [.int i tk, y], .cons ⟨_, rfl⟩ (.cons ru .nil), ⟨_, hT2, rfl, _, rfl⟩⟩
    have J : Inv X pins σ (upd H s.heap.objs.size (.tup [.int (i : Nat), x])) { s with heap := h2, toks := tk + 1 } :=
      I.turnedNew (ch := [e, it]) (fun b ob hb q => (sb.2 b (fun z => hb (by rw [z]; exact List.mem_cons_self))).trans
        (hk b ob (fun z => hb (by rw [z]; exact List.mem_cons_self)) (fun z => hb (by rw [z]; exact List.mem_cons_of_mem _ List.mem_cons_self)) q)) hf (Nat.le_refl _) made
    have e1 : ((i + 1 : Nat) : Int) = (i : Int) + 1 := by omega
    refine ⟨.ref s.heap.objs.size, _, J, rfl, ⟨_, x, rfl, I.hok.fresh (Nat.le_refl _), rfl, fun ys hy2 => by rw [I.tuple_inj hy2 hq]; exact hx⟩,
      ⟨⟨y, by rw [e1]; exact he2⟩, hst.1.at fun u2 q => (sb.2 it (Ne.symm ne)).trans q, ne⟩, fun b hb => ?_⟩
    have hlt : b < s.heap.objs.size := by
      rcases List.mem_cons.mp hb with z | z
      · rw [z]; exact hel
      · rw [List.mem_singleton.mp z]; exact hil
    rw [upd_ne (Nat.ne_of_lt hlt)]
    exact (hf b hb).1
  done := by
    intro X hP hw hK hc i pins s σ H E I hf st hg
    subst hP hw hK
    obtain ⟨⟨old, ie⟩, it1, ne⟩ := st
    obtain ⟨xs, hq, hx⟩ := hg
    obtain ⟨its, rv, p, hz⟩ := I.tuple hq
    have p2 : s.heap.IsTuple a its.toArray := p
    obtain ⟨oa, ga, ca, _⟩ := id p2
    obtain ⟨oi, gi, ci, di⟩ := id it1
    have nai : a ≠ it := apart_of ga gi ca ci (by decide)
    obtain ⟨f0, f1, f2, f3, f4, f5⟩ := hf it (List.mem_cons_of_mem _ List.mem_cons_self)
    have hl := rv.length
    refine wpAny_pyNext_enum_endD (Draws.tuple (prog := X.prog) (w := X.w) (A := X.A.in1) (I.ok.hd hc) it a nai its.toArray) ie ⟨?_, p2⟩ fun h' eb => ⟨rfl, I.turned (t' := s.toks) (fun b o hb q => eb b o hb q) f0 f1 f3 f4 f5⟩
    have ei : its.toArray.size = i := by simp; omega
    rw [ei]
    exact it1
  self := fun A i s Q E st h => by
    obtain ⟨⟨_, ie⟩, _⟩ := st
    exact wpAny_pyIter_enum ie h
def iEnumT (K : PySem.W.Frag) (ta : TA) : TI := fun σ H R => ta σ H fun vs H1 => ∃ (a : Addr) (xs : List V), vs = [.ref a] ∧ SqT K H1 a xs ∧ R (IteT K a) H1
theorem pi_enumT {X : Cx} {e : Expr} {ta : TA} {p pos tpos : Pos} {elts : List Expr} {kk : Nat} (hg : Gl X "enumerate") (hm : X.mg "enumerate" = none) (ha : PA X [e] ta)
    (hs : starEach [e] X.env = [(false, eval e X.env)] := by rfl) : PI X (.Tuple elts kk tpos) (.Call (.Name "enumerate" p) [e] [] pos) (iEnumT X.K ta) := by
  constructor
  intro pins s σ H R I h
  refine Call_ (ld_blt I hg hm boot_enumerate (PyProof.Rows.callWith_type1 (thn (ha.run pos pins s σ H _ I h) fun us s1 res => ?_) hs rfl))
  obtain ⟨vs, H1, I1, r1, a, xs, ex, hq, q⟩ := res
  subst ex
  cases r1 with
  | cons r rr =>
    cases rr
    cases r
    obtain ⟨its, rv, p', hz⟩ := I1.tuple hq
    refine vf_enum (begins_tuple a its.toArray) (show s1.heap.IsTuple a its.toArray from p') fun h' ie gi hk => wpAny_pyIter_enum ie ?_
    have J : Inv X pins σ H1 { s1 with heap := h' } := I1.kept (t' := s1.toks) hk
    refine ⟨s1.heap.objs.size + 1, [s1.heap.objs.size + 1, s1.heap.objs.size], _, _, H1, rfl, J, turn_enumT a (s1.heap.objs.size + 1) s1.heap.objs.size, ⟨⟨.none, ie⟩, ⟨_, gi, rfl, rfl⟩, Nat.succ_ne_self _⟩, fun b hb => ?_, q⟩
    have le : s1.heap.objs.size ≤ b := by
      rcases List.mem_cons.mp hb with z | z
      · rw [z]; exact Nat.le_succ _
      · rw [List.mem_singleton.mp z]; exact Nat.le_refl _
    exact I1.fpOk le (I1.hok.fresh le)
/-- for i, x in enumerate(t): a word for each turn -/
theorem for_enumT {K : PySem.W.Frag} {a : Addr} {xs : List V} {g : TG} {tb : TS} {D : Ends} {σ : L2.St} {H : Hp} (Pv : Nat → L2.St → Hp → Prop) (h0 : Pv 0 σ H) (hl : ∀ i σ H, i ≤ xs.length → Pv i σ H → SqT K H a xs)
    (hs : ∀ i x T σ H, xs[i]? = some x → Pv i σ H → H T = none → g (.ref T) σ (upd H T (.tup [.int (i : Nat), x])) fun σ2 H2 => tb { D with nx := Pv (i + 1), ct := Pv (i + 1), bk := D.nx } σ2 H2) (hd : ∀ σ H, Pv xs.length σ H → D.nx σ H) :
    tFor (fun _ H R => R (IteT K a) H) g tb D σ H := by
  refine ⟨fun i m σ H => m = xs.length - i ∧ i ≤ xs.length ∧ Pv i σ H, ⟨xs.length, rfl, Nat.zero_le _, h0⟩, ?_⟩
  rintro i m σ H ⟨rfl, hi, p⟩
  have q := hl i σ H hi p
  by_cases hlt : i < xs.length
  · refine .inr ⟨⟨xs, xs[i], q, List.getElem?_eq_getElem hlt⟩, Pv (i + 1), fun σ' H' p' => ⟨xs.length - (i + 1), by omega, rfl, hlt, p'⟩, fun v H' y => ?_⟩
    obtain ⟨T, x, rfl, hT, rfl, hx⟩ := y
    exact hs i x T σ H (hx _ q) p hT
  · have e : i = xs.length := by omega
    subst e
    exact .inl ⟨⟨xs, q, rfl⟩, hd σ H p⟩
theorem walk_enumT {K : PySem.W.Frag} {a : Addr} {xs : List V} : Walk (IteT K a) xs.length (fun H => SqT K H a xs) (YPair (fun i => some (.int (i : Nat))) (fun i => xs[i]?)) := by
  refine ⟨fun i _ hi q => ⟨xs, xs[i], q, by simp [hi]⟩, fun _ q => ⟨xs, q, rfl⟩, fun i H v H' _ q y => ?_⟩
  obtain ⟨T, x, h1, h2, h3, h4⟩ := y
  exact ⟨T, .int (i : Nat), x, h1, h2, h3, rfl, h4 xs q⟩
/-- a dict comprehension whose keys are ints or texts -/
theorem dcK_it {J : It} {n : Nat} {G : Hp → Prop} {Y : Nat → Hp → V → Hp → Prop} (w : Walk J n G Y) {g : TG} {tt : TT} {tk tv : TE} {own : List Nat} {σ : L2.St} {Ha : Hp} {D : Addr} {Qd : Hp → Prop} (Pv : Nat → Hp → Prop) (start : Pv 0 (upd Ha D (.dK []))) (stays : ∀ i H, i ≤ n → Pv i H → G H)
    (turn : ∀ i x H H', i < n → Pv i H → Y i H x H' → g x (wipe σ own) H' fun σ2 H2 => wipe σ2 own = wipe σ own ∧ tt σ2 H2 fun b H3 => if b = true then tk σ2 H3 fun y H4 => tv σ2 H4 fun z H5 => ∃ kvs k, y = kV k ∧ H5 D = some (.dK kvs) ∧ kvs.length < sizeLine ∧ Pv (i + 1) (upd H5 D (.dK (putK kvs k z))) else Pv (i + 1) H3)
    (after : ∀ H, Pv n H → Qd H) :
    ∃ W : Nat → Nat → Hp → Prop, (∃ m, W 0 m (upd Ha D (.dK []))) ∧ ∀ i m Hb, W i m Hb → (J.stop i Hb ∧ Qd Hb) ∨
      (J.go i Hb ∧ ∃ N : Hp → Prop, (∀ Hc, N Hc → ∃ m', m' < m ∧ W (i + 1) m' Hc) ∧ ∀ x Hc, J.yld i Hb x Hc →
        g x (wipe σ own) Hc fun σ2 H2 => wipe σ2 own = wipe σ own ∧ tt σ2 H2 fun b H3 => if b = true then tk σ2 H3 fun y H4 => tv σ2 H4 fun z H5 => ∃ kvs k, y = kV k ∧ H5 D = some (.dK kvs) ∧ kvs.length < sizeLine ∧ N (upd H5 D (.dK (putK kvs k z))) else N H3) := by
  refine ⟨fun i m H => m + i = n ∧ Pv i H, ⟨n, by omega, start⟩, fun i m Hb h => ?_⟩
  have ⟨e, p⟩ := h
  have ok := stays i Hb (by omega) p
  rcases Nat.lt_or_ge i n with lt | ge
  · refine .inr ⟨w.goes i Hb lt ok, Pv (i + 1), fun Hc q => ⟨m - 1, by omega, by omega, q⟩, fun x Hc y => turn i x Hb Hc lt p (w.yields i Hb x Hc lt ok y)⟩
  · obtain rfl : i = n := by omega
    exact .inl ⟨w.stops Hb ok, after Hb p⟩
end Vf

set_option Elab.async false
set_option linter.all false
set_option maxRecDepth 100000
set_option maxHeartbeats 4000000
namespace Vf
open PySem PySem.Spec PyProof.Rows L2 TL
/-! ### a comprehension with two for -/
theorem lc2_out {J : It} {n : Nat} {G : Hp → Prop} {Y : Nat → Hp → V → Hp → Prop} (w : Walk J n G Y) {g : TG} {tt : TT} {Body : L2.St → Hp → (Hp → Prop) → Prop} {vs : List Nat} {σ : L2.St} {H1 : Hp} {D : Addr} {Qd : Hp → Prop} (Pv : Nat → Hp → Prop) (h0 : Pv 0 (upd H1 D (.lst []))) (hG : ∀ i H, i ≤ n → Pv i H → G H)
    (hs : ∀ i x H H', i < n → Pv i H → Y i H x H' → g x (wipe σ vs) H' fun σ2 H2 => wipe σ2 vs = wipe σ vs ∧ tt σ2 H2 fun b H3 => if b = true then Body σ2 H3 (Pv (i + 1)) else Pv (i + 1) H3) (hd : ∀ H, Pv n H → Qd H) :
    ∃ W : Nat → Nat → Hp → Prop, (∃ m, W 0 m (upd H1 D (.lst []))) ∧ ∀ i m H, W i m H →
      (J.stop i H ∧ Qd H) ∨ (J.go i H ∧ ∃ Nx : Hp → Prop, (∀ H', Nx H' → ∃ m', m' < m ∧ W (i + 1) m' H') ∧ ∀ x H', J.yld i H x H' → g x (wipe σ vs) H' fun σ2 H2 => wipe σ2 vs = wipe σ vs ∧ tt σ2 H2 fun b H3 =>
        if b = true then Body σ2 H3 Nx else Nx H3) := by
  refine ⟨fun i m H => m = n - i ∧ i ≤ n ∧ Pv i H, ⟨n, by simp, Nat.zero_le _, h0⟩, ?_⟩
  rintro i m H ⟨rfl, hi, p⟩
  have q := hG i H hi p
  by_cases hlt : i < n
  · exact .inr ⟨w.goes i H hlt q, Pv (i + 1), fun H' p' => ⟨n - (i + 1), by omega, rfl, hlt, p'⟩, fun x H' y => hs i x H H' hlt p (w.yields i H x H' hlt q y)⟩
  · have e : i = n := by omega
    subst e
    exact .inl ⟨w.stops H q, hd H p⟩
theorem lc2_in {J : It} {n : Nat} {G : Hp → Prop} {Y : Nat → Hp → V → Hp → Prop} (w : Walk J n G Y) {g1 : TG} {tt1 : TT} {te : TE} {vs1 : List Nat} {σ2 : L2.St} {H4 : Hp} {D : Addr} {Nx : Hp → Prop} (Pv : Nat → Hp → Prop) (h0 : Pv 0 H4) (hG : ∀ i H, i ≤ n → Pv i H → G H)
    (hs : ∀ j x H H', j < n → Pv j H → Y j H x H' → g1 x (wipe σ2 vs1) H' fun σ3 H5 => wipe σ3 vs1 = wipe σ2 vs1 ∧ tt1 σ3 H5 fun b H6 => if b = true then te σ3 H6 fun y H7 => ∃ acc, H7 D = some (.lst acc) ∧ acc.length < sizeLine ∧ Pv (j + 1) (upd H7 D (.lst (acc ++ [y]))) else Pv (j + 1) H6) (hd : ∀ H, Pv n H → Nx H) :
    ∃ W1 : Nat → Nat → Hp → Prop, (∃ m, W1 0 m H4) ∧ ∀ j k H, W1 j k H →
      (J.stop j H ∧ Nx H) ∨ (J.go j H ∧ ∃ Nx1 : Hp → Prop, (∀ H', Nx1 H' → ∃ k', k' < k ∧ W1 (j + 1) k' H') ∧ ∀ x H', J.yld j H x H' → g1 x (wipe σ2 vs1) H' fun σ3 H5 => wipe σ3 vs1 = wipe σ2 vs1 ∧ tt1 σ3 H5 fun b H6 =>
        if b = true then te σ3 H6 fun y H7 => ∃ acc, H7 D = some (.lst acc) ∧ acc.length < sizeLine ∧ Nx1 (upd H7 D (.lst (acc ++ [y]))) else Nx1 H6) := by
  refine ⟨fun i m H => m = n - i ∧ i ≤ n ∧ Pv i H, ⟨n, by simp, Nat.zero_le _, h0⟩, ?_⟩
  rintro i m H ⟨rfl, hi, p⟩
  have q := hG i H hi p
  by_cases hlt : i < n
  · exact .inr ⟨w.goes i H hlt q, Pv (i + 1), fun H' p' => ⟨n - (i + 1), by omega, rfl, hlt, p'⟩, fun x H' y => hs i x H H' hlt p (w.yields i H x H' hlt q y)⟩
  · have e : i = n := by omega
    subst e
    exact .inl ⟨w.stops H q, hd H p⟩
end Vf

set_option Elab.async false
set_option linter.all false
set_option maxRecDepth 100000
set_option maxHeartbeats 4000000
namespace Vf
open PySem PySem.Spec PyProof.Rows L2 TL
/-- two values are the same data, at most n - 1 tuples deep -/
def Eqv : Nat → Hp → V → V → Prop
  | 0, _, _, _ => False
  | n + 1, H, v, u => ((∃ z, v = .str z ∧ u = .str z) ∨ (∃ i, v = .int i ∧ u = .int i) ∨ (v = .non ∧ u = .non)) ∨
      ∃ (a b : Addr) (xs ys : List V), v = .ref a ∧ u = .ref b ∧ H a = some (.tup xs) ∧ H b = some (.tup ys) ∧ xs.length = ys.length ∧ xs.length ≤ 100000 ∧ ∀ (i : Nat) x y, xs[i]? = some x → ys[i]? = some y → Eqv n H x y
def spExact (n : Nat) : Sp := fun vs H Q _ => ∃ (v u : V), vs = [v, u] ∧ Eqv n H v u ∧ Q (.bl true) H
theorem eq_self {H : Hp} {Q : VK} {x : V} (q : Q (.bl true) H) : Q (.bl (decide (x = x))) H := by
  rw [decide_eq_true rfl]; exact q
end Vf

set_option Elab.async false
set_option linter.all false
set_option maxRecDepth 100000
set_option maxHeartbeats 4000000
namespace Vf
open PySem PySem.Spec PyProof.Rows L2 TL
/-! ### text times int -/
theorem op_mul_str {X : Cx} : OpR X (binaryOp .Mult) (fun x y H Q => ∃ z n, x = .str z ∧ y = .int n ∧ MulOk z n ∧ Q (.str (Txt.mul z n)) H) := by
  intro pins s σ H x y v u Q I rx ry h
  obtain ⟨z, n, rfl, rfl, hm, q⟩ := h
  obtain ⟨t, rfl⟩ := rx
  obtain ⟨t', rfl⟩ := ry
  exact SB.mul hm fun t' k => ⟨.str (Txt.mul z n), H, I.tok _, ⟨_, rfl⟩, q⟩
theorem mul_fill {k : Nat} (h : k ≤ 2) : MulOk ("_" : Str) (k : Int) ∧ Txt.mul ("_" : Str) (k : Int) = mkS (List.replicate k 95) := by
  rcases k with _ | _ | _ | k
  · exact ⟨⟨by decide, fun h => absurd (by decide) h, fun h => absurd (by decide) h⟩, by decide +kernel⟩
  · exact ⟨⟨by decide, fun _ h => absurd h (by decide), fun _ h => absurd h (by decide)⟩, by decide +kernel⟩
  · exact ⟨⟨by decide, fun _ _ => by decide +kernel, fun _ _ => by decide +kernel⟩, by decide +kernel⟩
  · omega
theorem cutMid {zs : List Nat} {i e : Nat} (h1 : i ≤ zs.length) (h2 : e ≤ zs.length) : cutS (mkS zs) (some (i : Int)) (some (e : Int)) = mkS ((zs.drop i).take (e - i)) := by
  unfold cutS
  rw [HT.sIx_nat, HT.sIx_nat, mkS_len, Nat.min_eq_left h1, Nat.min_eq_left h2]
  rfl
theorem cutOne {zs : List Nat} : cutS (mkS zs) none (some (1 : Int)) = mkS (zs.take 1) := by
  unfold cutS
  rw [show (some (1 : Int)) = some ((1 : Nat) : Int) from rfl, HT.sIx_nat, HT.sIx_none, mkS_len]
  show mkS ((zs.drop 0).take (min 1 zs.length - 0)) = _
  rw [List.drop_zero, Nat.sub_zero]
  by_cases c : 1 ≤ zs.length
  · rw [Nat.min_eq_left c]
  · rw [Nat.min_eq_right (by omega), List.take_of_length_le (Nat.le_refl _), List.take_of_length_le (by omega)]
/-- a row more -/
theorem look_snoc {κ β : Type} [DecidableEq κ] {L : List (κ × β)} {r : κ × β} (h : ∀ q ∈ L, q.1 ≠ r.1) (k : κ) : look (L ++ [r]) k = if r.1 = k then some r.2 else look L k := by
  induction L with
  | nil =>
    by_cases e : r.1 = k
    · rw [if_pos e, ← e]; exact look_hit
    · rw [if_neg e]; exact look_miss e
  | cons q L ih =>
    have ih := ih fun x hx => h x (List.mem_cons_of_mem _ hx)
    by_cases e : q.1 = k
    · have : r.1 ≠ k := fun z => h q List.mem_cons_self (e.trans z.symm)
      rw [if_neg this, ← e]
      show look (q :: (L ++ [r])) q.1 = look (q :: L) q.1
      rw [look_hit, look_hit]
    · show look (q :: (L ++ [r])) k = _
      rw [look_miss e, look_miss e, ih]
theorem fresh_W {S : Sty} (h : StyOk S) {n : Nat} {r : Nat × Nat} (hr : S.W[n]? = some r) : ∀ q ∈ S.W.take n, q.1 ≠ r.1 := by
  intro q hq e
  obtain ⟨i, hi⟩ := List.mem_iff_getElem?.mp hq
  rw [List.getElem?_take] at hi
  by_cases c : i < n
  · rw [if_pos c] at hi
    have g1 : (rowsW S.W)[i]? = some ([q.1], natV q.2) := by unfold rowsW; rw [List.getElem?_map, hi]; rfl
    have g2 : (rowsW S.W)[n]? = some ([r.1], natV r.2) := by unfold rowsW; rw [List.getElem?_map, hr]; rfl
    exact lexN_ne (h.sw.lt g1 g2 c) (by show [q.1] = [r.1]; rw [e])
  · rw [if_neg c] at hi; cases hi
theorem fresh_2 {L : List ((Nat × Nat) × Nat)} (h : Asc (rows2 L)) {n : Nat} {r : (Nat × Nat) × Nat} (hr : L[n]? = some r) : ∀ q ∈ L.take n, q.1 ≠ r.1 := by
  intro q hq e
  obtain ⟨i, hi⟩ := List.mem_iff_getElem?.mp hq
  rw [List.getElem?_take] at hi
  by_cases c : i < n
  · rw [if_pos c] at hi
    have g1 : (rows2 L)[i]? = some ([q.1.1, q.1.2], natV q.2) := by unfold rows2; rw [List.getElem?_map, hi]; rfl
    have g2 : (rows2 L)[n]? = some ([r.1.1, r.1.2], natV r.2) := by unfold rows2; rw [List.getElem?_map, hr]; rfl
    exact lexN_ne (h.lt g1 g2 c) (by show [q.1.1, q.1.2] = [r.1.1, r.1.2]; rw [e])
  · rw [if_neg c] at hi; cases hi
theorem wOf_snoc {S : Sty} (h : StyOk S) {n : Nat} {r : Nat × Nat} (hr : S.W[n]? = some r) (c : Nat) : wOf (S.W.take (n + 1)) c = if r.1 = c then r.2 else wOf (S.W.take n) c := by
  unfold wOf
  rw [take_succ' hr, look_snoc (fresh_W h hr)]
  by_cases e : r.1 = c
  · rw [if_pos e, if_pos e]; rfl
  · rw [if_neg e, if_neg e]
theorem cutOf_snoc {L : List ((Nat × Nat) × Nat)} (h : Asc (rows2 L)) {n : Nat} {r : (Nat × Nat) × Nat} (hr : L[n]? = some r) (a b : Nat) : cutOf (L.take (n + 1)) a b = (if r.1 = (a, b) then r.2 else 0) + cutOf (L.take n) a b := by
  unfold cutOf
  rw [take_succ' hr, look_snoc (fresh_2 h hr)]
  by_cases e : r.1 = (a, b)
  · rw [if_pos e, if_pos e, look_none fun q hq z => fresh_2 h hr q hq (z.trans e.symm)]; rfl
  · rw [if_neg e, if_neg e, Nat.zero_add]
theorem sgn_eq (a b : Nat) : decide (sgn a = sgn b) = decide (a = b) := decide_eq_decide.mpr ⟨fun h => by
  have h := V.str.inj h
  have := congrArg (fun t : Str => t.cps.toList) h
  exact (List.cons.inj this).1, fun h => by rw [h]⟩
theorem RowsV.row {H : Hp} {vs : List V} {L : List (List Nat × V)} {n : Nat} {x : V} (hl : vs.length = L.length) (h : ∀ (i : Nat) (r : List Nat × V), L[i]? = some r → ∃ b : Addr, vs[i]? = some (.ref b) ∧ H b = some (.tup (rowV r))) (hx : vs[n]? = some x) : ∃ (r : List Nat × V) (b : Addr), L[n]? = some r ∧ x = .ref b ∧ H b = some (.tup (rowV r)) := by
  have hn := (List.getElem?_eq_some_iff.mp hx).1
  have g : L[n]? = some L[n] := List.getElem?_eq_getElem (by omega)
  obtain ⟨b, e1, e2⟩ := h n _ g
  rw [hx] at e1
  exact ⟨_, b, g, Option.some.inj e1, e2⟩
theorem map_at2 {α β : Type} {f : α → β} {l : List α} {i : Nat} {y : β} (h : (l.map f)[i]? = some y) : ∃ x, l[i]? = some x ∧ y = f x := by
  obtain ⟨x, e1, e2⟩ := at_map h
  exact ⟨x, e1, e2.symm⟩
section
variable {P : Program} {w : World} {K : PySem.W.Frag} {mg : Str → Option Value} {base : Heap}
def spLawPiece : Sp := fun vs H Q _ => ∃ (v : V) (S : Sty) (zs : List Nat) (i j : Nat), vs = [v, sV zs, .int (i : Int), .int (j : Int)] ∧ StyV H v S ∧ StyOk S ∧ WdOk zs ∧ i ≤ j ∧ j ≤ zs.length ∧ Q (sV (pieceN S zs i j)) H
def partN (S : Sty) (zs : List Nat) (i j n : Nat) : List Nat := (List.range' i n).flatMap (fun k => zs.getD k 0 :: List.replicate (wAt S zs j k - 1) 95)
theorem partN_len {S : Sty} (h : StyOk S) (zs : List Nat) (i j n : Nat) : (partN S zs i j n).length ≤ 3 * n := by
  unfold partN
  have : ∀ l : List Nat, (l.flatMap (fun k => zs.getD k 0 :: List.replicate (wAt S zs j k - 1) 95)).length ≤ 3 * l.length := by
    intro l
    induction l with
    | nil => exact Nat.le_refl _
    | cons a r ih =>
      rw [List.flatMap_cons, List.length_append, List.length_cons, List.length_replicate, List.length_cons]
      have := wAt_bd h zs j a
      omega
  have := this (List.range' i n)
  rw [List.length_range'] at this
  exact this
theorem ok_law_piece (T : Txt K mg) : FnOk P w K mg base CX0 1 T.a_law_piece T.d_law_piece ["_law_style", "_law_word", "_law_first", "_law_behind"] spLawPiece := by
  refine T.D_law_piece.F.ok sc_law_piece (fun vs H Q E h => ?_) (fun cdv A outer s H vs Q E hr h => ?_)
  · obtain ⟨v, S, zs, k, j, rfl, _⟩ := h
    rfl
  · obtain ⟨v, S, zs, i, j, rfl, ⟨a, wv, cv, bv, pv_, rfl, e, ⟨wa, ws, rfl, ew, lw, hW⟩, ⟨ca, cs, rfl, ec, lc, hC⟩, h3⟩, ok, wd, hij, hj, q⟩ := h
    refine ⟨_, (pss_cons (ps_set (i := 4) sc_law_piece.nd rfl (.inl rfl) pe_str)
      (pss_cons (ps_for PassesOwn.never rfl (pi_range2 (by rfl) T.n_range (pa_cons (pv 2) (pa_cons (pv 3) pa_nil))) (pg_name (i := 5) sc_law_piece.nd rfl (.inl rfl)) (pss_cons (ps_set (i := 6) sc_law_piece.nd rfl (.inl rfl) pe_int)
      (pss_cons (ps_for PassesOwn.never rfl (pi_tup (pe_ix ix_tup (pv 0) pe_int (fun _ _ => rfl))) (pg_tup (by rfl) (pgs_cons (pg_name (i := 7) sc_law_piece.nd rfl (.inl rfl)) (pgs_cons (pg_name (i := 8) sc_law_piece.nd rfl (.inl rfl)) pgs_nil))) (pss_one (ps_if (pt_cmpR op_eq (pv 7) (pe_ix ix_str (pv 1) (pv 5) (fun _ _ => rfl)) (nomark _)) (pss_one (ps_set (i := 6) sc_law_piece.nd rfl (.inl rfl) (pv 8))) pss_nil)))
      (pss_cons (ps_for PassesOwn.never rfl (pi_tup (pe_ix ix_tup (pv 0) pe_int (fun _ _ => rfl))) (pg_tup (by rfl) (pgs_cons (pg_name (i := 7) sc_law_piece.nd rfl (.inl rfl)) (pgs_cons (pg_name (i := 9) sc_law_piece.nd rfl (.inl rfl)) (pgs_cons (pg_name (i := 10) sc_law_piece.nd rfl (.inl rfl)) pgs_nil)))) (pss_one (ps_if (PW.pt (pw_and (pt_cmpR op_eq (pv 7) (pe_ix ix_str (pv 1) (pv 5) (fun _ _ => rfl)) (nomark _)) (pw_and1 (pt_cmpR op_eq (pe_slice sl_str (pe_slice sl_str (pv 1) (po_some (pe_op op_add (pv 5) pe_int)) (po_some (pv 3))) po_none (po_some pe_int)) (pv 9) (nomark _))))) (pss_one (ps_set (i := 6) sc_law_piece.nd rfl (.inl rfl) (pe_op op_sub (pv 6) (pv 10)))) pss_nil)))
      (pss_one (ps_set (i := 4) sc_law_piece.nd rfl (.inl rfl) (pe_op op_add_str (pe_op op_add_str (pv 4) (pe_ix ix_str (pv 1) (pv 5) (fun _ _ => rfl))) (pe_op op_mul_str pe_str (pe_op op_sub (pv 6) pe_int)))))))))
      (pss_one (ps_ret (pe_ifExp (pt_cmpR op_lt (pv 3) (pe_callB call_len_str (by rfl) T.n_len PySem.boot_len (pa_cons (pv 1) pa_nil)) (nomark _)) (pe_op op_add_str (pv 4) pe_str) (pv 4)))))), ?_⟩
    have hb : (mkS zs).length ≤ sizeLine := by rw [mkS_len]; exact big_ok (by have := wd.len; omega)
    have hl := wd.len
    refine ⟨_, rfl, _, rfl, i, j, rfl, ⟨by omega, by omega, by omega, by omega⟩, ?_⟩
    have en : ((j : Int) - (i : Int)).toNat = j - i := by omega
    rw [en]
    refine for_it walk_range (fun n σ' H' => H' = H ∧ ∃ (x5 x6 x7 x8 x9 x10 : Option V), σ' = [some (.ref a), some (sV zs), some (.int (i : Int)), some (.int (j : Int)), some (sV (partN S zs i j n)), x5, x6, x7, x8, x9, x10]) ⟨rfl, none, none, none, none, none, none, rfl⟩ (fun _ _ _ _ _ => trivial) ?_ ?_
    · rintro n x σ' H' H'' hn ⟨rfl, x5, x6, x7, x8, x9, x10, rfl⟩ ⟨rfl, hx⟩
      have hx : x = .int ((i + n : Nat) : Int) := hx
      subst hx
      have g0 := wd.at (show i + n < zs.length by omega)
      refine ⟨_, rfl, a, _, _, _, rfl, rfl, SqT.of e, rfl, wa, rfl, ⟨ws, SqT.of ew⟩, ?_⟩
      refine for_it (walk_tup (K := K) (a := wa) (xs := ws)) (fun m σ' H2 => H2 = H'' ∧ ∃ (x7 x8 : Option V), σ' = [some (.ref a), some (sV zs), some (.int (i : Int)), some (.int (j : Int)), some (sV (partN S zs i j n)), some (.int ((i + n : Nat) : Int)), some (natV (wOf (S.W.take m) (zs.getD (i + n) 0))), x7, x8, x9, x10]) ⟨rfl, x7, x8, rfl⟩ (fun _ _ _ _ h => by rw [h.1]; exact SqT.of ew) ?_ ?_
      · rintro m x σ' H2 H3 hm ⟨rfl, x7, x8, rfl⟩ ⟨rfl, hx⟩
        obtain ⟨r, b, hr1, rfl, hb1⟩ := RowsV.row lw hW hx
        obtain ⟨r, hr2, rfl⟩ := map_at2 hr1
        refine ⟨b, _, rfl, SqT.of hb1, rfl, _, _, rfl, _, _, rfl, rfl, ?_⟩
        refine ⟨_, rfl, _, rfl, _, rfl, mkS zs, _, _, rfl, rfl, hb, atI_nat g0.1, rfl, decide (r.1 = zs.getD (i + n) 0), congrArg V.bl (sgn_eq _ _), ite2 (fun c => ?_) (fun c => ?_)⟩
        · have c := of_decide_eq_true c
          refine ⟨_, rfl, rfl, some (sgn r.1), some (natV r.2), ?_⟩
          rw [wOf_snoc ok hr2, if_pos c]; rfl
        · have c : ¬ r.1 = zs.getD (i + n) 0 := fun z => c (decide_eq_true z)
          refine ⟨rfl, some (sgn r.1), some (natV r.2), ?_⟩
          rw [wOf_snoc ok hr2, if_neg c]; rfl
      · rintro σ' H2 ⟨rfl, x7, x8, rfl⟩
        have el : S.W.take ws.length = S.W := List.take_of_length_le (by rw [lw, len_rW]; exact Nat.le_refl _)
        rw [el]
        refine ⟨_, rfl, a, _, _, _, rfl, rfl, SqT.of e, rfl, ca, rfl, ⟨cs, SqT.of ec⟩, ?_⟩
        refine for_it (walk_tup (K := K) (a := ca) (xs := cs)) (fun m σ' H3 => H3 = H2 ∧ ∃ (x7 x8 x9 x10 : Option V), σ' = [some (.ref a), some (sV zs), some (.int (i : Int)), some (.int (j : Int)), some (sV (partN S zs i j n)), some (.int ((i + n : Nat) : Int)), some (.int ((wOf S.W (zs.getD (i + n) 0) : Int) - ((if i + n + 1 < j then cutOf (S.C.take m) (zs.getD (i + n) 0) (zs.getD (i + n + 1) 0) else 0 : Nat) : Int))), x7, x8, x9, x10]) ⟨rfl, x7, x8, x9, x10, ?_⟩ (fun _ _ _ _ h => by rw [h.1]; exact SqT.of ec) ?_ ?_
        · have : (if i + n + 1 < j then cutOf (S.C.take 0) (zs.getD (i + n) 0) (zs.getD (i + n + 1) 0) else 0) = 0 := by
            by_cases c : i + n + 1 < j
            · rw [if_pos c]; rfl
            · rw [if_neg c]
          rw [this]
          show _ = [_, _, _, _, _, _, some (V.int ((wOf S.W (zs.getD (i + n) 0) : Int) - 0)), _, _, _, _]
          rw [Int.sub_zero]; rfl
        · rintro m x σ' H3 H4 hm ⟨rfl, x7, x8, x9, x10, rfl⟩ ⟨rfl, hx⟩
          obtain ⟨r, b, hr1, rfl, hb1⟩ := RowsV.row lc hC hx
          obtain ⟨r, hr2, rfl⟩ := map_at2 hr1
          have en2 := cutOf_snoc ok.sc hr2 (zs.getD (i + n) 0) (zs.getD (i + n + 1) 0)
          have en3 : ¬ r.1 = (zs.getD (i + n) 0, zs.getD (i + n + 1) 0) → cutOf (S.C.take (m + 1)) (zs.getD (i + n) 0) (zs.getD (i + n + 1) 0) = cutOf (S.C.take m) (zs.getD (i + n) 0) (zs.getD (i + n + 1) 0) := fun h => by rw [en2, if_neg h, Nat.zero_add]
          refine ⟨b, _, rfl, SqT.of hb1, rfl, _, _, rfl, _, _, rfl, _, _, rfl, rfl, ?_⟩
          refine ⟨_, rfl, _, rfl, _, rfl, mkS zs, _, _, rfl, rfl, hb, atI_nat g0.1, rfl, decide (r.1.1 = zs.getD (i + n) 0), congrArg V.bl (sgn_eq _ _), ?_⟩
          by_cases c : r.1.1 = zs.getD (i + n) 0
          · rw [decide_eq_true c]
            have ek : ((i + n : Nat) : Int) + 1 = ((i + n + 1 : Nat) : Int) := rfl
            refine ⟨_, rfl, _, rfl, _, _, rfl, rfl, _, rfl, _, rfl, _, rfl, mkS zs, rfl, hb, ?_⟩
            rw [ek, cutMid (show i + n + 1 ≤ zs.length by omega) hj]
            refine ⟨_, rfl, _, rfl, by rw [mkS_len, List.length_take, List.length_drop]; exact big_ok (by omega), ?_⟩
            rw [cutOne]
            by_cases c2 : i + n + 1 < j
            · have g1 : zs[i + n + 1]? = some (zs.getD (i + n + 1) 0) := (wd.at (show i + n + 1 < zs.length by omega)).1
              have e5 : ((zs.drop (i + n + 1)).take (j - (i + n + 1))).take 1 = [zs.getD (i + n + 1) 0] := by
                rw [drop_y g1, List.take_take, Nat.min_eq_left (by omega), List.take_succ_cons, List.take_zero]
              rw [e5]
              refine ⟨_, rfl, rfl, decide (zs.getD (i + n + 1) 0 = r.1.2), congrArg V.bl (sgn_eq _ _), ite2 (fun c3 => ?_) (fun c3 => ?_)⟩
              · have c3 := of_decide_eq_true c3
                have ev : (wOf S.W (zs.getD (i + n) 0) : Int) - ((if i + n + 1 < j then cutOf (S.C.take m) (zs.getD (i + n) 0) (zs.getD (i + n + 1) 0) else 0 : Nat) : Int) - (r.2 : Int) = (wOf S.W (zs.getD (i + n) 0) : Int) - ((if i + n + 1 < j then cutOf (S.C.take (m + 1)) (zs.getD (i + n) 0) (zs.getD (i + n + 1) 0) else 0 : Nat) : Int) := by
                  rw [if_pos c2, if_pos c2, en2, if_pos (Prod.ext c c3.symm)]
                  omega
                refine ⟨_, rfl, _, rfl, _, _, rfl, rfl, rfl, some (sgn r.1.1), x8, some (sgn r.1.2), some (natV r.2), ?_⟩
                rw [← ev]; rfl
              · refine ⟨rfl, some (sgn r.1.1), x8, some (sgn r.1.2), some (natV r.2), ?_⟩
                rw [en3 (fun z => c3 (decide_eq_true (by rw [z])))]; rfl
            · have e5 : ((zs.drop (i + n + 1)).take (j - (i + n + 1))).take 1 = [] := by
                rw [show j - (i + n + 1) = 0 by omega, List.take_zero]; rfl
              rw [e5]
              refine ⟨_, rfl, rfl, false, bF (fun z => ?_), rfl, some (sgn r.1.1), x8, some (sgn r.1.2), some (natV r.2), ?_⟩
              · have z := congrArg (fun t : Str => t.cps.toList) (V.str.inj z)
                cases z
              · rw [if_neg c2, if_neg c2]; rfl
          · rw [decide_eq_false c]
            refine ⟨rfl, some (sgn r.1.1), x8, some (sgn r.1.2), some (natV r.2), ?_⟩
            rw [en3 (fun z => c (by rw [z]))]; rfl
        · rintro σ' H3 ⟨rfl, x7, x8, x9, x10, rfl⟩
          have el2 : S.C.take cs.length = S.C := List.take_of_length_le (by rw [lc, len_r2]; exact Nat.le_refl _)
          rw [el2]
          have ew2 : (wOf S.W (zs.getD (i + n) 0) : Int) - ((if i + n + 1 < j then cutOf S.C (zs.getD (i + n) 0) (zs.getD (i + n + 1) 0) else 0 : Nat) : Int) = ((wAt S zs j (i + n) : Nat) : Int) := by
            unfold wAt
            by_cases c : i + n + 1 < j
            · rw [if_pos c, if_pos c]
              have := cut_lt ok (zs.getD (i + n) 0) (zs.getD (i + n + 1) 0)
              omega
            · rw [if_neg c, if_neg c]; omega
          rw [ew2]
          have wb := wAt_bd ok zs j (i + n)
          obtain ⟨u, eu, hu⟩ : ∃ u : Nat, wAt S zs j (i + n) = u + 1 ∧ u ≤ 2 := ⟨wAt S zs j (i + n) - 1, by omega, by omega⟩
          have pl := partN_len ok zs i j n
          have mf := mul_fill hu
          refine ⟨_, rfl, _, rfl, _, rfl, mkS zs, _, _, rfl, rfl, hb, atI_nat g0.1, mkS (partN S zs i j n), mkS [zs.getD (i + n) 0], rfl, rfl, by rw [mkS_len, mkS_len]; exact big_ok (by show _ + 1 ≤ _; omega), ?_⟩
          refine ⟨_, rfl, _, _, rfl, rfl, _, _, rfl, rfl, by rw [eu]; show MulOk _ ((u : Int) + 1 - 1); rw [Int.add_sub_cancel]; exact mf.1, ?_⟩
          rw [eu]
          have e9 : ((u + 1 : Nat) : Int) - 1 = (u : Int) := by omega
          rw [e9, mf.2, mkS_app]
          refine ⟨_, _, rfl, rfl, ?_, ?_⟩
          · rw [mkS_len, mkS_len, List.length_append, List.length_replicate]; exact big_ok (by show _ + 1 + _ ≤ _; omega)
          · have e6 : partN S zs i j (n + 1) = partN S zs i j n ++ [zs.getD (i + n) 0] ++ List.replicate u 95 := by
              unfold partN
              rw [List.range'_1_concat, List.flatMap_append, List.append_assoc]
              congr 1
              show (zs.getD (i + n) 0 :: List.replicate (wAt S zs j (i + n) - 1) 95) ++ [] = _
              rw [eu, List.append_nil]; rfl
            refine ⟨rfl, some (.int ((i + n : Nat) : Int)), some (.int ((u + 1 : Nat) : Int)), x7, x8, x9, x10, ?_⟩
            rw [e6]
            have e7 : sV (partN S zs i j n ++ [zs.getD (i + n) 0] ++ List.replicate u 95) = V.str (mkS (partN S zs i j n ++ [zs.getD (i + n) 0]) ++ mkS (List.replicate u 95)) := by rw [mkS_app]; rfl
            rw [e7]; rfl
    · rintro σ' H' ⟨rfl, x5, x6, x7, x8, x9, x10, rfl⟩
      have pl := partN_len ok zs i j (j - i)
      refine ⟨_, rfl, _, rfl, mkS zs, rfl, hb, _, _, rfl, rfl, _, rfl, ite2 (fun c => ?_) (fun c => ?_)⟩
      · have c := of_decide_eq_true c
        rw [mkS_len] at c
        refine ⟨_, rfl, mkS (partN S zs i j (j - i)), _, rfl, rfl, by rw [mkS_len]; exact big_ok (by show _ + 1 ≤ _; omega), ?_⟩
        have e1 : pieceN S zs i j = partN S zs i j (j - i) ++ [45] := by
          unfold pieceN partN
          rw [if_pos (by omega)]
        rw [e1] at q
        have e2 : sV (partN S zs i j (j - i) ++ [45]) = V.str (mkS (partN S zs i j (j - i)) ++ mkS [45]) := by rw [mkS_app]; rfl
        rw [e2] at q
        exact q
      · have e1 : pieceN S zs i j = partN S zs i j (j - i) := by
          unfold pieceN partN
          rw [if_neg fun z => c (decide_eq_true (by rw [mkS_len]; omega)), List.append_nil]
        rw [e1] at q
        exact ⟨_, rfl, q⟩
end
end Vf

set_option Elab.async false
set_option linter.all false
set_option maxRecDepth 100000
set_option maxHeartbeats 4000000
namespace Vf
open PySem PySem.Spec PyProof.Rows L2 TL
/-! ### the law's own places, shapes and pieces -/
def PlAt (H : Hp) (x : V) (r : Nat × Nat) : Prop := ∃ b, x = .ref b ∧ H b = some (.tup [natV r.1, natV r.2])
def PlL (H : Hp) (vs : List V) (rs : List (Nat × Nat)) : Prop := vs.length = rs.length ∧ ∀ (i : Nat) (r : Nat × Nat), rs[i]? = some r → ∃ x, vs[i]? = some x ∧ PlAt H x r
theorem PlL.same {H H' : Hp} {vs : List V} {rs : List (Nat × Nat)} (h : PlL H vs rs) (k : ∀ a xs, H a = some (.tup xs) → H' a = some (.tup xs)) : PlL H' vs rs := ⟨h.1, fun i r e => by
  obtain ⟨x, e1, b, e2, e3⟩ := h.2 i r e
  exact ⟨x, e1, b, e2, k _ _ e3⟩⟩
theorem PlL.snoc {H : Hp} {vs : List V} {rs : List (Nat × Nat)} {x : V} {r : Nat × Nat} (h : PlL H vs rs) (hx : PlAt H x r) : PlL H (vs ++ [x]) (rs ++ [r]) := by
  refine ⟨by rw [List.length_append, List.length_append, h.1]; rfl, fun i q e => ?_⟩
  by_cases hi : i < rs.length
  · rw [List.getElem?_append_left hi] at e
    obtain ⟨y, e1, e2⟩ := h.2 i q e
    exact ⟨y, by rw [List.getElem?_append_left (by rw [h.1]; exact hi)]; exact e1, e2⟩
  · rw [List.getElem?_append_right (by omega)] at e
    have e0 : i - rs.length = 0 := by
      have := (List.getElem?_eq_some_iff.mp e).1
      simp at this
      exact this
    rw [e0] at e
    have e : r = q := Option.some.inj e
    subst e
    exact ⟨x, by rw [List.getElem?_append_right (by rw [h.1]; omega), h.1, e0]; rfl, hx⟩
theorem PlL.at {H : Hp} {vs : List V} {rs : List (Nat × Nat)} {i : Nat} {x : V} (h : PlL H vs rs) (hx : vs[i]? = some x) : ∃ r, rs[i]? = some r ∧ PlAt H x r := by
  have hi := (List.getElem?_eq_some_iff.mp hx).1
  have hi2 : i < rs.length := by rw [← h.1]; exact hi
  have g : rs[i]? = some rs[i] := List.getElem?_eq_getElem hi2
  obtain ⟨y, e1, e2⟩ := h.2 i _ g
  rw [hx] at e1
  have := Option.some.inj e1
  subst this
  exact ⟨_, g, e2⟩
/-- places up to a row of the breaks -/
def plM (S : Sty) (zs : List Nat) (n m : Nat) : List (Nat × Nat) := plN S zs n ++ ((look (S.B.take m) (zs.getD (n + 1) 0, zs.getD (n + 2) 0)).map fun p => (n + 2, p)).toList
theorem plM_zero (S : Sty) (zs : List Nat) (n : Nat) : plM S zs n 0 = plN S zs n := List.append_nil _
theorem plM_last (S : Sty) (zs : List Nat) (n : Nat) : plM S zs n S.B.length = plN S zs (n + 1) := by
  unfold plM
  rw [List.take_length, plN_succ]
theorem plM_hit {S : Sty} (ok : StyOk S) {zs : List Nat} {n m : Nat} {r : (Nat × Nat) × Nat} (hr : S.B[m]? = some r) (h : r.1 = (zs.getD (n + 1) 0, zs.getD (n + 2) 0)) : plM S zs n (m + 1) = plM S zs n m ++ [(n + 2, r.2)] := by
  unfold plM
  rw [take_succ' hr, look_snoc (fresh_2 ok.sb hr), if_pos h, look_none fun q hq z => fresh_2 ok.sb hr q hq (z.trans h.symm)]
  show plN S zs n ++ [(n + 2, r.2)] = plN S zs n ++ [] ++ [(n + 2, r.2)]
  rw [List.append_nil]
theorem plM_miss {S : Sty} (ok : StyOk S) {zs : List Nat} {n m : Nat} {r : (Nat × Nat) × Nat} (hr : S.B[m]? = some r) (h : ¬ r.1 = (zs.getD (n + 1) 0, zs.getD (n + 2) 0)) : plM S zs n (m + 1) = plM S zs n m := by
  unfold plM
  rw [take_succ' hr, look_snoc (fresh_2 ok.sb hr), if_neg h]
theorem plM_len (S : Sty) (zs : List Nat) (n m : Nat) : (plM S zs n m).length ≤ n + 1 := by
  unfold plM plN
  rw [List.length_append]
  have h1 := List.length_filterMap_le (fun k => (look S.B (zs.getD (k - 1) 0, zs.getD k 0)).map fun p => (k, p)) (List.range' 2 n)
  rw [List.length_range'] at h1
  have h2 : ((look (S.B.take m) (zs.getD (n + 1) 0, zs.getD (n + 2) 0)).map fun p => (n + 2, p)).toList.length ≤ 1 := by
    cases look (S.B.take m) (zs.getD (n + 1) 0, zs.getD (n + 2) 0) with
    | none => exact Nat.zero_le _
    | some p => exact Nat.le_refl _
  omega
section
variable {P : Program} {w : World} {K : PySem.W.Frag} {mg : Str → Option Value} {base : Heap}
def spLawPlaces : Sp := fun vs H Q _ => ∃ (v : V) (S : Sty) (zs : List Nat), vs = [v, sV zs] ∧ StyV H v S ∧ StyOk S ∧ WdOk zs ∧ ∀ (L : Addr) (ps : List V) H', H L = none → Same H H' → H' L = some (.lst ps) → PlL H' ps (places S zs) → Q (.ref L) H'
theorem ok_law_places (T : Txt K mg) : FnOk P w K mg base CX0 1 T.a_law_places T.d_law_places ["_law_style", "_law_word"] spLawPlaces := by
  refine T.D_law_places.F.ok sc_law_places (fun vs H Q E h => ?_) (fun cdv A outer s H vs Q E hr h => ?_)
  · obtain ⟨v, S, zs, rfl, _⟩ := h
    rfl
  · obtain ⟨v, S, zs, rfl, ⟨a, wv, cv, bv, pv_, rfl, e, _, _, ⟨ba, bs, rfl, eb, lb, hB⟩⟩, ok, wd, q⟩ := h
    refine ⟨_, (pss_cons (ps_set (i := 2) sc_law_places.nd rfl (.inl rfl) (pe_lst pa_nil))
      (pss_cons (ps_for PassesOwn.never rfl (pi_range2 (by rfl) T.n_range (pa_cons pe_int (pa_cons (pe_op op_sub (pe_callB call_len_str (by rfl) T.n_len PySem.boot_len (pa_cons (pv 1) pa_nil)) pe_int) pa_nil))) (pg_name (i := 3) sc_law_places.nd rfl (.inl rfl)) (pss_one (ps_for PassesOwn.never rfl (pi_tup (pe_ix ix_tup (pv 0) pe_int (fun _ _ => rfl))) (pg_tup (by rfl) (pgs_cons (pg_name (i := 4) sc_law_places.nd rfl (.inl rfl)) (pgs_cons (pg_name (i := 5) sc_law_places.nd rfl (.inl rfl)) (pgs_cons (pg_name (i := 6) sc_law_places.nd rfl (.inl rfl)) pgs_nil)))) (pss_one (ps_if (PW.pt (pw_and (pt_cmpR op_eq (pv 4) (pe_ix ix_str (pv 1) (pe_op op_sub (pv 3) pe_int) (fun _ _ => rfl)) (nomark _)) (pw_and1 (pt_cmpR op_eq (pv 5) (pe_ix ix_str (pv 1) (pv 3) (fun _ _ => rfl)) (nomark _))))) (pss_one (ps_expr (pe_bm PySem.F.plainAttrs_list PySem.F.slot_list_append PySem.F.type_list_append mt_append (pv 2) (pa_cons (pe_tup (pa_cons (pv 3) (pa_cons (pv 6) pa_nil))) pa_nil)))) pss_nil)))))
      (pss_one (ps_ret (pv 2))))), ?_⟩
    have hb : (mkS zs).length ≤ sizeLine := by rw [mkS_len]; exact big_ok (by have := wd.len; omega)
    have hl := wd.len
    rw [len_r2] at lb
    refine ⟨by show 0 ≤ sizeLine; decide, fun D nD => ?_⟩
    have k0 : Same H (upd H D (.lst [])) := same_upd (Same.refl H) nD
    refine ⟨_, rfl, mkS zs, rfl, hb, _, _, rfl, rfl, 2, _, rfl, ⟨by decide, by decide, by rw [mkS_len]; omega, by rw [mkS_len]; omega⟩, ?_⟩
    have en : (((mkS zs).length : Int) - 1 - 2).toNat = zs.length - 3 := by rw [mkS_len]; omega
    rw [en]
    refine for_it walk_range (fun n σ' H' => ∃ (ps : List V) (x3 x4 x5 x6 : Option V), σ' = [some (.ref a), some (sV zs), some (.ref D), x3, x4, x5, x6] ∧ Same H H' ∧ H' D = some (.lst ps) ∧ PlL H' ps (plN S zs n)) ⟨[], none, none, none, none, rfl, k0, upd_same, ⟨rfl, fun i r h => by simp [plN] at h⟩⟩ (fun _ _ _ _ _ => trivial) ?_ ?_
    · rintro n x σ' H' H'' hn ⟨ps, x3, x4, x5, x6, rfl, k1, e1, pl⟩ ⟨rfl, hx⟩
      have hx : x = .int ((n + 2 : Nat) : Int) := by
        rw [hx]
        show V.int (2 + (n : Int)) = _
        rw [show 2 + (n : Int) = ((n + 2 : Nat) : Int) by omega]
      subst hx
      have g1 := wd.at (show n + 1 < zs.length by omega)
      have g2 := wd.at (show n + 2 < zs.length by omega)
      have ea : ((n + 2 : Nat) : Int) - 1 = ((n + 1 : Nat) : Int) := by omega
      refine ⟨_, rfl, a, _, _, _, rfl, rfl, SqT.of (k1 _ _ e), rfl, ba, rfl, ⟨bs, SqT.of (k1 _ _ eb)⟩, ?_⟩
      refine for_it (walk_tup (K := K) (a := ba) (xs := bs)) (fun m σ' H' => ∃ (ps : List V) (x4 x5 x6 : Option V), σ' = [some (.ref a), some (sV zs), some (.ref D), some (.int ((n + 2 : Nat) : Int)), x4, x5, x6] ∧ Same H H' ∧ H' D = some (.lst ps) ∧ PlL H' ps (plM S zs n m)) ⟨ps, x4, x5, x6, rfl, k1, e1, by rw [plM_zero]; exact pl⟩ ?_ ?_ ?_
      · rintro i σ' H' _ ⟨_, _, _, _, _, k, _⟩
        exact SqT.of (k _ _ eb)
      · rintro m x σ' H2 H3 hm ⟨ps, x4, x5, x6, rfl, k2, e2, pl⟩ ⟨rfl, hx⟩
        obtain ⟨r, b, hr1, rfl, hb1⟩ := RowsV.row (by rw [len_r2]; exact lb) hB hx
        obtain ⟨r, hr2, rfl⟩ := map_at2 hr1
        refine ⟨b, _, rfl, SqT.of (k2 _ _ hb1), rfl, _, _, rfl, _, _, rfl, _, _, rfl, rfl, ?_⟩
        refine ⟨_, rfl, _, rfl, _, rfl, _, _, rfl, rfl, mkS zs, _, _, rfl, rfl, hb, by rw [ea]; exact atI_nat g1.1, rfl, decide (r.1.1 = zs.getD (n + 1) 0), congrArg V.bl (sgn_eq _ _), ?_⟩
        by_cases c : r.1.1 = zs.getD (n + 1) 0
        · rw [decide_eq_true c]
          refine ⟨_, rfl, _, rfl, _, rfl, mkS zs, _, _, rfl, rfl, hb, atI_nat g2.1, rfl, decide (r.1.2 = zs.getD (n + 2) 0), congrArg V.bl (sgn_eq _ _), ite2 (fun c3 => ?_) (fun c3 => ?_)⟩
          · have c3 := of_decide_eq_true c3
            have lp : ps.length ≤ n + 1 := by rw [pl.1]; exact plM_len S zs n m
            refine ⟨.ref D, rfl, .inl ⟨rfl, _, .inl (.inl e2)⟩, _, rfl, _, rfl, Nat.le_of_lt (lt_s (by show _ < 100000; simp)), fun p np => ?_⟩
            have kr := same_upd (o := .tup [natV (n + 2), natV r.2]) (Same.refl H3) np
            refine ⟨D, _, _, rfl, rfl, kr _ _ e2, lt_s (by omega), ?_⟩
            refine ⟨ps ++ [.ref p], some (sgn r.1.1), some (sgn r.1.2), some (natV r.2), rfl, same_mut (k2.trans kr) nD, upd_same, ?_⟩
            rw [plM_hit ok hr2 (Prod.ext c c3)]
            have kq : ∀ a xs, upd H3 p (.tup [natV (n + 2), natV r.2]) a = some (.tup xs) → upd (upd H3 p (.tup [natV (n + 2), natV r.2])) D (.lst (ps ++ [V.ref p])) a = some (.tup xs) := fun a xs e => by
              have : a ≠ D := fun z => by
                rw [z, kr _ _ e2] at e; cases e
              rw [upd_ne this]; exact e
            exact ((pl.same (same_tup kr)).snoc ⟨p, rfl, upd_same⟩).same kq
          · refine ⟨ps, some (sgn r.1.1), some (sgn r.1.2), some (natV r.2), rfl, k2, e2, ?_⟩
            rw [plM_miss ok hr2 (fun z => c3 (decide_eq_true (by rw [z])))]
            exact pl
        · rw [decide_eq_false c]
          refine ⟨ps, some (sgn r.1.1), some (sgn r.1.2), some (natV r.2), rfl, k2, e2, ?_⟩
          rw [plM_miss ok hr2 (fun z => c (by rw [z]))]
          exact pl
      · rintro σ' H2 ⟨ps, x4, x5, x6, rfl, k2, e2, pl⟩
        rw [lb, plM_last] at pl
        exact ⟨ps, _, x4, x5, x6, rfl, k2, e2, pl⟩
    · rintro σ' H' ⟨ps, x3, x4, x5, x6, rfl, k1, e1, pl⟩
      exact ⟨_, rfl, q D ps H' nD k1 e1 pl⟩
def spLawShape : Sp := fun vs H Q _ => ∃ (v : V) (S : Sty) (zs : List Nat), vs = [v, sV zs] ∧ StyV H v S ∧ StyOk S ∧ WdOk zs ∧ ∀ u H', Same H H' → ShapeV H' u S zs → Q u H'
theorem pieceW_small {S : Sty} (ok : StyOk S) {zs : List Nat} (i j : Nat) (wd : WdOk zs) (hj : j ≤ zs.length) : (pieceN S zs i j).length ≤ 100 := by
  have h := partN_len ok zs i j (j - i)
  have hl := wd.len
  unfold pieceN
  unfold partN at h
  rw [List.length_append]
  by_cases c : j < zs.length
  · rw [if_pos c]; show _ + 1 ≤ _; omega
  · rw [if_neg c]; show _ + 0 ≤ _; omega
theorem ok_law_shape (T : Txt K mg) : FnOk P w K mg base CX0 2 T.a_law_shape T.d_law_shape ["_law_style", "_law_word"] spLawShape := by
  have G_law_places : FnOk P w K mg base CX0 1 T.a_law_places T.d_law_places ["_law_style", "_law_word"] spLawPlaces := ok_law_places T
  have G_law_piece : FnOk P w K mg base CX0 1 T.a_law_piece T.d_law_piece ["_law_style", "_law_word", "_law_first", "_law_behind"] spLawPiece := ok_law_piece T
  refine T.D_law_shape.F.ok sc_law_shape (fun vs H Q E h => ?_) (fun cdv A outer s H vs Q E hr h => ?_)
  · obtain ⟨v, S, zs, rfl, _⟩ := h
    rfl
  · obtain ⟨v, S, zs, rfl, hv, ok, wd, q⟩ := h
    refine ⟨_, (pss_cons (ps_set (i := 2) sc_law_shape.nd rfl (.inl rfl) (pe_lst pa_nil))
      (pss_cons (ps_for PassesOwn.never rfl (pi_list (pe_call G_law_places (hr.mono (by decide)) (by rfl) T.D_law_places.G T.D_law_places.F.kp T.D_law_places.B .nil pass0 (pa_cons (pv 0) (pa_cons (pv 1) pa_nil)))) (pg_tup (by rfl) (pgs_cons (pg_name (i := 3) sc_law_shape.nd rfl (.inl rfl)) (pgs_cons (pg_name (i := 4) sc_law_shape.nd rfl (.inl rfl)) pgs_nil))) (pss_cons (ps_set (i := 5) sc_law_shape.nd rfl (.inl rfl) (pe_callB call_len_str (by rfl) T.n_len PySem.boot_len (pa_cons (pe_call G_law_piece (hr.mono (by decide)) (by rfl) T.D_law_piece.G T.D_law_piece.F.kp T.D_law_piece.B .nil pass0 (pa_cons (pv 0) (pa_cons (pv 1) (pa_cons pe_int (pa_cons (pv 3) pa_nil))))) pa_nil)))
      (pss_one (ps_expr (pe_bm PySem.F.plainAttrs_list PySem.F.slot_list_append PySem.F.type_list_append mt_append (pv 2) (pa_cons (pe_tup (pa_cons (pv 5) (pa_cons (pe_callB call_len_str (by rfl) T.n_len PySem.boot_len (pa_cons (pe_call G_law_piece (hr.mono (by decide)) (by rfl) T.D_law_piece.G T.D_law_piece.F.kp T.D_law_piece.B .nil pass0 (pa_cons (pv 0) (pa_cons (pv 1) (pa_cons (pv 3) (pa_cons (pe_callB call_len_str (by rfl) T.n_len PySem.boot_len (pa_cons (pv 1) pa_nil)) pa_nil))))) pa_nil)) (pa_cons (pv 4) pa_nil)))) pa_nil))))))
      (pss_one (ps_ret (pe_tup (pa_cons (pe_callB call_len_str (by rfl) T.n_len PySem.boot_len (pa_cons (pe_call G_law_piece (hr.mono (by decide)) (by rfl) T.D_law_piece.G T.D_law_piece.F.kp T.D_law_piece.B .nil pass0 (pa_cons (pv 0) (pa_cons (pv 1) (pa_cons pe_int (pa_cons (pe_callB call_len_str (by rfl) T.n_len PySem.boot_len (pa_cons (pv 1) pa_nil)) pa_nil))))) pa_nil)) (pa_cons (pe_callTy call_tuple_of (by rfl) T.n_tuple (by decide +kernel) (pa_cons (pv 2) pa_nil)) pa_nil))))))), ?_⟩
    have hb : (mkS zs).length ≤ sizeLine := by rw [mkS_len]; exact big_ok (by have := wd.len; omega)
    have hl := wd.len
    have hp : ∀ i j, j ≤ zs.length → (mkS (pieceN S zs i j)).length ≤ sizeLine := fun i j hj => by rw [mkS_len]; exact big_ok (by have := pieceW_small ok i j wd hj; omega)
    have hpw : ∀ i j, (((mkS (pieceN S zs i j)).length : Nat) : Int) = ((pieceW S zs i j : Nat) : Int) := fun i j => by rw [mkS_len, pieceN_len ok]
    refine ⟨by show 0 ≤ sizeLine; decide, fun D nD => ?_⟩
    have k0 : Same H (upd H D (.lst [])) := same_upd (Same.refl H) nD
    refine ⟨_, rfl, _, rfl, v, S, zs, rfl, hv.mono (same_tup k0), ok, wd, fun L ps H1 nL k1 eL pl => ?_⟩
    have hLD : L ≠ D := fun z => by rw [z, upd_same] at nL; cases nL
    have k1' := k0.trans k1
    refine ⟨L, rfl, ⟨ps, SqL.of eL⟩, ?_⟩
    refine for_it (walk_list (K := K) (a := L) (xs := ps)) (fun n σ' H' => ∃ (vs : List V) (x3 x4 x5 : Option V), σ' = [some v, some (sV zs), some (.ref D), x3, x4, x5] ∧ Same H H' ∧ H' L = some (.lst ps) ∧ PlL H' ps (places S zs) ∧ H' D = some (.lst vs) ∧ PartL H' S zs vs ((places S zs).take n))
      ⟨[], none, none, none, rfl, k1', eL, pl, k1 _ _ upd_same, ⟨rfl, fun i r h => by simp at h⟩⟩ ?_ ?_ ?_
    · rintro i σ' H' _ ⟨_, _, _, _, _, _, eL, _⟩
      exact SqL.of eL
    · rintro n x σ' H2 H3 hn ⟨vs, x3, x4, x5, rfl, k2, eL, pl, eD, pt⟩ ⟨rfl, hx⟩
      obtain ⟨r, hr, b, rfl, eb⟩ := pl.at hx
      have hrm := List.mem_of_getElem? hr
      have bd := places_bd hrm
      refine ⟨b, _, rfl, SqT.of eb, rfl, _, _, rfl, _, _, rfl, rfl, ?_⟩
      refine ⟨_, rfl, _, rfl, _, rfl, v, S, zs, 0, r.1, rfl, hv.mono (same_tup k2), ok, wd, Nat.zero_le _, by omega, _, rfl, hp 0 r.1 (by omega), ?_⟩
      refine ⟨.ref D, rfl, .inl ⟨rfl, _, .inl (.inl eD)⟩, _, rfl, _, rfl, _, rfl, _, rfl, _, rfl, mkS zs, rfl, hb, v, S, zs, r.1, zs.length, by rw [mkS_len]; rfl, hv.mono (same_tup k2), ok, wd, by omega, Nat.le_refl _, _, rfl, hp r.1 zs.length (Nat.le_refl _), _, rfl, Nat.le_of_lt (lt_s (by show _ < 100000; simp)), fun p np => ?_⟩
      rw [hpw, hpw]
      have kr := same_upd (o := .tup [natV (pieceW S zs 0 r.1), natV (pieceW S zs r.1 zs.length), natV r.2]) (Same.refl H3) np
      have lv : vs.length ≤ 16 := by
        rw [pt.1, List.length_take]
        have := places_len S zs
        omega
      refine ⟨D, _, _, rfl, rfl, kr _ _ eD, lt_s (by omega), ?_⟩
      have kq : ∀ a xs, upd H3 p (.tup [natV (pieceW S zs 0 r.1), natV (pieceW S zs r.1 zs.length), natV r.2]) a = some (.tup xs) → upd (upd H3 p (.tup [natV (pieceW S zs 0 r.1), natV (pieceW S zs r.1 zs.length), natV r.2])) D (.lst (vs ++ [V.ref p])) a = some (.tup xs) := fun a xs e => by
        have : a ≠ D := fun z => by
          rw [z, kr _ _ eD] at e; cases e
        rw [upd_ne this]; exact e
      refine ⟨vs ++ [.ref p], some (natV r.1), some (natV r.2), some (natV (pieceW S zs 0 r.1)), ?_, same_mut (k2.trans kr) nD, by rw [upd_ne hLD]; exact kr _ _ eL, (pl.same (same_tup kr)).same kq, upd_same, ?_⟩
      · rfl
      · rw [take_succ' hr]
        exact ((pt.same (same_tup kr)).snoc ⟨p, rfl, upd_same⟩).same kq
    · rintro σ' H2 ⟨vs, x3, x4, x5, rfl, k2, eL, pl, eD, pt⟩
      rw [pl.1, List.take_length] at pt
      refine ⟨_, rfl, _, rfl, _, rfl, mkS zs, rfl, hb, v, S, zs, 0, zs.length, by rw [mkS_len]; rfl, hv.mono (same_tup k2), ok, wd, Nat.zero_le _, Nat.le_refl _, _, rfl, hp 0 _ (Nat.le_refl _), ?_⟩
      rw [hpw]
      refine ⟨_, rfl, D, vs, rfl, .inl ⟨SqL.of eD, fun p np => ?_⟩⟩
      have kp := same_upd (o := .tup vs) (Same.refl H2) np
      refine ⟨by show 2 ≤ sizeLine; decide, fun r nr => ?_⟩
      have kr := same_upd (o := .tup [natV (pieceW S zs 0 zs.length), V.ref p]) (Same.refl _) nr
      exact q _ _ (k2.trans (kp.trans kr)) ⟨r, p, vs, rfl, upd_same, kr _ _ upd_same, pt.same (same_tup (kp.trans kr))⟩
end
end Vf

set_option Elab.async false
set_option linter.all false
set_option maxRecDepth 100000
set_option maxHeartbeats 4000000
namespace Vf
open PySem PySem.Spec PyProof.Rows L2
/-! ### set comprehensions of ints -/
/-- y is put into the set at D that is being made -/
def AddI (w : World) (D : Addr) (y : V) (H : Hp) (N : Hp → Prop) : Prop :=
  ∃ (k : Int) (S : Int → Bool) (n : Nat), y = .int k ∧ H D = some (SetO w D S n) ∧ n + 1 < scanBound ∧ N (upd H D (SetO w D (fun j => S j || decide (j = k)) (if S k = true then n else n + 1)))
theorem add_runs {Y : Cx} {ps : List (Addr × Obj)} {τ : L2.St} {H : Hp} {t : Shared} {D : Addr} {y : V} {u : Value} {N : Hp → Prop} {F : Value → Shared → Prop} {R : Value → Shared → Prop} (I : Inv Y ps τ H t) (ky : RelV y u) (h : AddI Y.w D y H N)
    (go : ∀ t' H', Inv Y ps τ H' t' → N H' → R .none t') :
    wpAny (model Y.prog Y.w) Y.A (call (.builtin "set.add") [.ref D, u]) R F t := by
  obtain ⟨k, S, n, ey, eD, room, hN⟩ := h
  subst ey
  obtain ⟨tk, rfl⟩ := ky
  refine setR_add (setO_get I eD) room fun h' same r => ?_
  have he : ∃ x, h'.get? D = some x := by
    obtain ⟨o, es, ep, tt, ho, rest⟩ := id r
    exact ⟨o, ho⟩
  exact go _ _ (I.write (e := D) (t' := t.toks + 1) (by rw [eD]; trivial) (.inl rfl) (fun b x hb hx => (same.2 b hb).trans hx) he (setO_new r)) hN
section
variable {X : Cx}
/-- {e for target in iter if ..}, e an int: D the new set -/
def tScI (w : World) (wi : TI) (g : TG) (tt : TT) (tk : TE) (own : List Nat) : TE := fun σ H Q => wi σ H fun J Ha => ∀ D, Ha D = none →
  ∃ W : Nat → Nat → Hp → Prop, (∃ m, W 0 m (upd Ha D (SetO w D (fun _ => false) 0))) ∧ ∀ i m Hb, W i m Hb → (J.stop i Hb ∧ Q (.ref D) Hb) ∨
    (J.go i Hb ∧ ∃ N : Hp → Prop, (∀ Hc, N Hc → ∃ m', m' < m ∧ W (i + 1) m' Hc) ∧ ∀ x Hc, J.yld i Hb x Hc →
      g x (wipe σ own) Hc fun σ2 H2 => wipe σ2 own = wipe σ own ∧ tt σ2 H2 fun b H3 => if b = true then tk σ2 H3 fun y H4 => AddI w D y H4 N else N H3)
/-- the block's promise of each part, wherever the block's own room comes to stand -/
abbrev InBlk (X : Cx) (scope : Scope) (R : Cx → Prop) : Prop := ∀ (s : Shared) (H : Hp) (C : Addr) (cl : List (Str × Addr)) (fp : List Addr), R (X.blk s H scope (compEnvC scope cl C X.env) fp)
theorem scI_core {pins : List (Addr × Obj)} {s : Shared} {σ : L2.St} {H : Hp} {Q : VK} {kx tg iter : Expr} {ifs : List Expr} {scope : Scope} {own : List (Str × Nat)} {pos pos' : Pos} {wi : TI} {g : TG} {tt : TT} {tk : TE} {use : Option (Value → Sem Unit)} {Qf : Value → Shared → Prop}
    (calm : X.calm = true) (nd : X.N.Nodup) (I : Inv X pins σ H s) (pi : PI X tg iter wi) (bk : BlkOk X.N X.env.scope scope own)
    (pg : InBlk X scope fun Y => PG Y tg g) (pt : InBlk X scope fun Y => PTs Y ifs tt) (pk : InBlk X scope fun Y => PE Y kx tk) (fold : ∀ x, foldedSetIterable iter X.env x = pure x)
    (h : tScI X.w wi g tt tk (own.map (·.2)) σ H Q)
    (leave : ∀ (D C : Addr) t ms H', Inv X pins σ H' t → Q (.ref D) H' → t.heap.Ns C ms → FpOk X pins H' C → compPost (model X.prog X.w) X.A X.xe use Qf (.ref D) C (.ok .next) t) :
    wpAny (model X.prog X.w) X.A (comprehension (.SetComp kx [⟨tg, iter, ifs, 0⟩] scope pos) scope X.env pos' (newSet (.type "set")) false (eval iter X.env) use) Qf X.xe s := by
  have has : ∀ y ∈ scope.names, y.2 = .free → ∃ c, X.env.cells.lookup y.1 = some c := by
    intro y hy e
    exact (bk.free y hy e).elim (fun k => I.ok.has _ (.inl k)) (fun k => I.ok.has _ (.inr k))
  refine wpAny_comprehension_free (use := use) rfl fold (closure_ok has) bk.kind (fun y hy e => (bk.uniq y hy).trans (congrArg some e)) ?_
  refine thn (pi.run pins s σ H _ I h) fun v0 s1 w1 => thn w1 fun v1 s2 w2 => ?_
  obtain ⟨it, fp, tn, J, Ha, rfl, Ia, T, st, fs, q⟩ := w2
  refine PpSet.newSet_ok (newEnv_comp ?_)
  -- the new set stands at D
  obtain ⟨D, eD⟩ : ∃ D, D = s2.heap.objs.size := ⟨_, rfl⟩
  obtain ⟨W, ⟨m0, w0⟩, turn⟩ := q D (Ia.hok.fresh (Nat.le_of_eq eD.symm))
  obtain ⟨s3, es3⟩ : ∃ s3 : Shared, s3 = { s2 with heap := s2.heap.push { cls := .type "set", dict := none, data := .set #[] 0 (.fresh 0 0 (!X.w.params.followText "set-order")) } } := ⟨_, rfl⟩
  have eh : s3.heap = s2.heap.push { cls := .type "set", dict := none, data := .set #[] 0 (.fresh 0 0 (!X.w.params.followText "set-order")) } := by rw [es3]
  rw [← es3, ← eD]
  have Ib : Inv X pins σ (upd Ha D (SetO X.w D (fun _ => false) 0)) s3 := by
    rw [es3, eD]
    exact Ia.laid (t' := s2.toks) (fun b o e => Heap.get?_push_of_some _ e) (Nat.le_refl _) (setO_new (setR_fresh X.w))
  have lt : ∀ b ∈ fp, b < D := fun b hb => by
    have ⟨o, e, _⟩ := T.obj _ _ st b hb
    rw [eD]; exact Heap.lt_size e
  have fd : ∀ b ∈ fp, (upd Ha D (SetO X.w D (fun _ => false) 0)) b = none := fun b hb => (upd_ne (Nat.ne_of_lt (lt b hb))).trans (fs b hb).1
  have f3 : ∀ b ∈ fp, FpOk X pins (upd Ha D (SetO X.w D (fun _ => false) 0)) b ∧ b < s3.heap.objs.size := fun b hb =>
    ⟨⟨fd b hb, (fs b hb).2⟩, by rw [eh, Heap.size_push, ← eD]; exact Nat.lt_succ_of_lt (lt b hb)⟩
  have st3 : tn 0 s3.heap := T.keep _ _ _ st fun b _ o e => by rw [eh]; exact Heap.get?_push_of_some _ e
  have Ic := block_start Ib bk nd f3
  have G := pg s3 (upd Ha D (SetO X.w D (fun _ => false) 0)) s3.heap.objs.size (cellsFrom (s3.heap.objs.size + 1) scope.names (cloFrom X.env.cells scope.names [])) fp
  have S := pt s3 (upd Ha D (SetO X.w D (fun _ => false) 0)) s3.heap.objs.size (cellsFrom (s3.heap.objs.size + 1) scope.names (cloFrom X.env.cells scope.names [])) fp
  have Kx := pk s3 (upd Ha D (SetO X.w D (fun _ => false) 0)) s3.heap.objs.size (cellsFrom (s3.heap.objs.size + 1) scope.names (cloFrom X.env.cells scope.names [])) fp
  obtain ⟨ce, ece⟩ : ∃ ce, ce = compEnvC scope (cellsFrom (s3.heap.objs.size + 1) scope.names (cloFrom X.env.cells scope.names [])) s3.heap.objs.size X.env := ⟨_, rfl⟩
  have cl : ce.locals = s3.heap.objs.size := by rw [ece]; rfl
  obtain ⟨s4, es4⟩ : ∃ s4 : Shared, s4 = { s3 with heap := pushCells (s3.heap.push { cls := .type "dict", data := .dict #[] }) scope.names } := ⟨_, rfl⟩
  rw [← ece] at Ic G S Kx
  rw [← es4] at Ic
  have st4 : tn 0 s4.heap := T.keep _ _ _ st3 fun b _ o e => by rw [es4]; exact pushCells_keeps _ _ _ _ (Heap.get?_push_of_some _ e)
  have pinned : ∀ {τ : L2.St} {H' : Hp} {t : Shared}, Inv (X.blk s3 (upd Ha D (SetO X.w D (fun _ => false) 0)) scope ce fp) [] τ H' t → (∀ b ∈ fp, H' b = none) → ∀ b ∈ fp, FpOk (X.blk s3 (upd Ha D (SetO X.w D (fun _ => false) 0)) scope ce fp) [] H' b := by
    intro τ H' t I' free b hb
    have e1 := I'.ok.exf b hb
    exact ⟨free b hb, e1.1, I'.ok.exfs b hb, .inl hb, fun x c e => e1.2 x c e, fun p hp => by cases hp⟩
  -- what the loop keeps at its turn number i
  let Keep : Nat → Shared → Prop := fun n t => ∃ i H', Inv (X.blk s3 (upd Ha D (SetO X.w D (fun _ => false) 0)) scope ce fp) [] (wipe σ (own.map (·.2))) H' t ∧ tn i t.heap ∧ (∀ b ∈ fp, H' b = none) ∧ W i n H'
  have runs : codeAny (model X.prog X.w) X.A (.compLoop (.SetComp kx [⟨tg, iter, ifs, 0⟩] scope pos) 0 (.ref it) (.ref D) ce)
      (compPost (model X.prog X.w) X.A X.xe use Qf (.ref D) s3.heap.objs.size) s4 := by
    refine PpSet.compLoopS_any Keep ?_ m0 ⟨0, _, Ic, st4, fd, w0⟩
    intro n t1 ⟨i, Hb, I1, z1, free, w1⟩
    rcases turn i n Hb w1 with ⟨stop, hQ⟩ | ⟨go, N, less, step⟩
    · -- no further thing: back in the def
      refine thnF (T.done (X.blk s3 (upd Ha D (SetO X.w D (fun _ => false) 0)) scope ce fp) rfl rfl rfl calm i [] t1 _ Hb (fun _ _ => False) I1 (pinned I1 free) z1 stop) fun r t2 ⟨er, I2⟩ => ?_
      subst er
      have Iz : Inv X pins σ Hb t2 := Ib.call' (ch := fp) I2.os I2.base I2.hok I2.bare fun b hb =>
        have f := (f3 b hb).1.2
        ⟨f.2.2.1, f.1, f.2.2.2.1, f.2.2.2.2⟩
      obtain ⟨ms, hns, _⟩ := I2.loc
      have hns : t2.heap.Ns ce.locals ms := hns
      have nl : Hb ce.locals = none := I2.free
      rw [cl] at hns nl
      exact leave D _ t2 ms Hb Iz hQ hns (Ib.fpOk (Nat.le_refl _) nl)
    · refine thnF (T.item (X.blk s3 (upd Ha D (SetO X.w D (fun _ => false) 0)) scope ce fp) rfl rfl rfl calm i [] t1 _ Hb (fun _ _ => False) I1 (pinned I1 free) z1 go) fun r t2 ⟨u, er, a2⟩ => ?_
      subst er
      refine thnF a2 fun _ t3 ⟨x, Hc, I3, rx, y3, z3, free3⟩ => ?_
      refine thnF (G.run _ t3 _ Hc x u _ (I3.pinned (pinned I3 free3) (T.obj _ _ z3)) rx (step x Hc y3)) fun _ t4 ⟨σ2, H2, I4, ew, q4⟩ => ?_
      refine thnF (S.run _ t4 σ2 H2 _ I4 q4) fun b t5 ⟨H3, I5, q5⟩ => ?_
      -- how a turn ends, in the room of the block
      have close : ∀ {t : Shared} {H' : Hp}, Inv (X.blk s3 (upd Ha D (SetO X.w D (fun _ => false) 0)) scope ce fp) ([] ++ pinsAt fp t3.heap) σ2 H' t → N H' → ∃ m, m < n ∧ Keep m t := by
        intro t H' I' hN
        obtain ⟨m', hm, w'⟩ := less H' hN
        have still : ∀ b ∈ fp, ∀ o, t3.heap.get? b = some o → t.heap.get? b = some o ∧ H' b = none := by
          intro b hb o e
          have p := I'.pin (b, o) (List.mem_append_right _ (List.mem_append_right _ (mem_pinsAt hb e)))
          exact ⟨p.1, p.2.1⟩
        have len : (wipe σ (own.map (·.2))).length = σ2.length := by rw [← ew]; exact wipe_length _ _
        refine ⟨m', hm, i + 1, H', (I'.unpinned (pins := [])).weak len fun j v e => ?_, T.keep _ _ _ z3 fun b hb o e => (still b hb o e).1, fun b hb => ?_, w'⟩
        · rw [← ew] at e; exact (wipe_some e).1
        · have ⟨o, e, _⟩ := T.obj _ _ z3 b hb
          exact (still b hb o e).2
      cases b with
      | false => exact close I5 q5
      | true =>
        refine thnF (Kx.run _ t5 σ2 H3 _ I5 q5) fun ku t6 ⟨y, H4, I6, ry, q6⟩ => ?_
        exact add_runs (Y := X.blk s3 (upd Ha D (SetO X.w D (fun _ => false) 0)) scope ce fp) I6 ry q6 fun t8 H6 I8 n8 => close I8 n8
  have whole := PpSet.codeAny_compStart_set runs (T.self X.A 0 _ _ _ st4 runs)
  rw [ece, es4] at whole
  exact whole
/-- as a value -/
theorem pe_scI {kx tg iter : Expr} {ifs : List Expr} {scope : Scope} {own : List (Str × Nat)} {pos : Pos} {wi : TI} {g : TG} {tt : TT} {tk : TE} (calm : X.calm = true) (nd : X.N.Nodup) (pi : PI X tg iter wi) (bk : BlkOk X.N X.env.scope scope own)
    (pg : InBlk X scope fun Y => PG Y tg g) (pt : InBlk X scope fun Y => PTs Y ifs tt) (pk : InBlk X scope fun Y => PE Y kx tk) (fold : ∀ x, foldedSetIterable iter X.env x = pure x := by intro _; rfl) :
    PE X (.SetComp kx [⟨tg, iter, ifs, 0⟩] scope pos) (tScI X.w wi g tt tk (own.map (·.2))) := by
  constructor
  intro pins s σ H Q I h
  rw [PpSet.eval_SetComp]
  refine scI_core calm nd I pi bk pg pt pk fold h fun D C t ms H' I' hQ hns f => ⟨ms, hns, fun h2 sb => ?_⟩
  exact ⟨.ref D, H', I'.turned (t' := t.toks) (fun b o hb e => (sb.2 b hb).trans e) f.1 f.2.1 f.2.2.2.1 f.2.2.2.2.1 f.2.2.2.2.2, rfl, hQ⟩
end
/-- over any walk: Pv by the turn and the heap -/
theorem scI_it {ww : World} {J : It} {n : Nat} {G : Hp → Prop} {Y : Nat → Hp → V → Hp → Prop} (w : Walk J n G Y) {g : TG} {tt : TT} {tk : TE} {own : List Nat} {σ : L2.St} {Ha : Hp} {D : Addr} {Qd : Hp → Prop} (Pv : Nat → Hp → Prop) (start : Pv 0 (upd Ha D (SetO ww D (fun _ => false) 0))) (stays : ∀ i H, i ≤ n → Pv i H → G H)
    (turn : ∀ i x H H', i < n → Pv i H → Y i H x H' → g x (wipe σ own) H' fun σ2 H2 => wipe σ2 own = wipe σ own ∧ tt σ2 H2 fun b H3 => if b = true then tk σ2 H3 fun y H4 => AddI ww D y H4 (Pv (i + 1)) else Pv (i + 1) H3)
    (after : ∀ H, Pv n H → Qd H) :
    ∃ W : Nat → Nat → Hp → Prop, (∃ m, W 0 m (upd Ha D (SetO ww D (fun _ => false) 0))) ∧ ∀ i m Hb, W i m Hb → (J.stop i Hb ∧ Qd Hb) ∨
      (J.go i Hb ∧ ∃ N : Hp → Prop, (∀ Hc, N Hc → ∃ m', m' < m ∧ W (i + 1) m' Hc) ∧ ∀ x Hc, J.yld i Hb x Hc →
        g x (wipe σ own) Hc fun σ2 H2 => wipe σ2 own = wipe σ own ∧ tt σ2 H2 fun b H3 => if b = true then tk σ2 H3 fun y H4 => AddI ww D y H4 N else N H3) := by
  refine ⟨fun i m H => m + i = n ∧ Pv i H, ⟨n, by omega, start⟩, fun i m Hb h => ?_⟩
  have ⟨e, p⟩ := h
  have ok := stays i Hb (by omega) p
  rcases Nat.lt_or_ge i n with lt | ge
  · refine .inr ⟨w.goes i Hb lt ok, Pv (i + 1), fun Hc q => ⟨m - 1, by omega, by omega, q⟩, fun x Hc y => turn i x Hb Hc lt p (w.yields i Hb x Hc lt ok y)⟩
  · obtain rfl : i = n := by omega
    exact .inl ⟨w.stops Hb ok, after Hb p⟩
end Vf

set_option Elab.async false
set_option linter.all false
set_option maxRecDepth 100000
set_option maxHeartbeats 4000000
namespace Vf
open PySem PySem.Spec PyProof.Rows L2 TL
/-! ### data made of tuples -/
/-- all tuples stand -/
def TK (H H' : Hp) : Prop := ∀ a xs, H a = some (.tup xs) → H' a = some (.tup xs)
theorem TK.refl (H : Hp) : TK H H := fun _ _ h => h
theorem TK.trans {H H1 H2 : Hp} (a : TK H H1) (b : TK H1 H2) : TK H H2 := fun x xs h => b x xs (a x xs h)
theorem TK.kp {d l : Addr} {H H' : Hp} (D : DI d l H) (k : Kp d H H') : TK H H' := kpTup D k
theorem TK.same {H H' : Hp} (k : Same H H') : TK H H' := fun a xs e => k _ _ e
theorem TK.new {H H' : Hp} {p : Addr} {o : HO} (k : TK H H') (hp : H' p = none) : TK H (upd H' p o) := fun a xs e => by
  have e := k _ _ e
  rw [upd_ne (ne_of_none e hp)]; exact e
theorem TK.mut {H H' : Hp} {p : Addr} {us : List V} {o : HO} (k : TK H H') (hp : H' p = some (.lst us)) : TK H (upd H' p o) := fun a xs e => by
  have e := k _ _ e
  have n : a ≠ p := fun z => by rw [z, hp] at e; cases e
  rw [upd_ne n]; exact e
/-- a relation of things that holds on while all tuples stand -/
structure Mn {α : Type} (R : Hp → V → α → Prop) : Prop where
  to : ∀ {H H' : Hp} {v : V} {x : α}, R H v x → TK H H' → R H' v x
def natR : Hp → V → Nat → Prop := fun _ v n => v = nV n
theorem nV_inj {a b : Nat} (h : nV a = nV b) : a = b := by
  have := V.int.inj h
  omega
theorem natR_mn : Mn natR := ⟨fun h _ => h⟩
def TupR {α : Type} (R : Hp → V → α → Prop) (H : Hp) (v : V) (xs : List α) : Prop := ∃ a us, v = .ref a ∧ H a = some (.tup us) ∧ LV (R H) us xs
theorem TupR.mn {α : Type} {R : Hp → V → α → Prop} (m : Mn R) : Mn (TupR R) := ⟨fun h k => by
  obtain ⟨a, us, e, h1, h2⟩ := h
  exact ⟨a, us, e, k _ _ h1, h2.mono fun _ _ z => m.to z k⟩⟩
def PairR {α β : Type} (R : Hp → V → α → Prop) (S : Hp → V → β → Prop) (H : Hp) (v : V) (p : α × β) : Prop := ∃ a u w, v = .ref a ∧ H a = some (.tup [u, w]) ∧ R H u p.1 ∧ S H w p.2
theorem PairR.mn {α β : Type} {R : Hp → V → α → Prop} {S : Hp → V → β → Prop} (m : Mn R) (n : Mn S) : Mn (PairR R S) := ⟨fun h k => by
  obtain ⟨a, u, w, e, h1, h2, h3⟩ := h
  exact ⟨a, u, w, e, k _ _ h1, m.to h2 k, n.to h3 k⟩⟩
theorem LV.nats : ∀ {us : List V} {xs : List Nat}, LV (natR H) us xs → us = xs.map nV := by
  intro us xs h
  refine List.ext_getElem? fun i => ?_
  rw [List.getElem?_map]
  by_cases hi : i < xs.length
  · obtain ⟨x, e, r⟩ := h.2 i _ (List.getElem?_eq_getElem hi)
    rw [e, List.getElem?_eq_getElem hi, show x = nV xs[i] from r]; rfl
  · rw [List.getElem?_eq_none (by rw [h.1]; omega), List.getElem?_eq_none (by omega)]; rfl
theorem LV.of_nats (H : Hp) (xs : List Nat) : LV (natR H) (xs.map nV) xs := ⟨List.length_map _, fun i r e => ⟨nV r, by rw [List.getElem?_map, e]; rfl, rfl⟩⟩
/-- a tuple of numbers -/
def NsR : Hp → V → List Nat → Prop := fun H v xs => ∃ a, v = .ref a ∧ H a = some (.tup (xs.map nV))
theorem NsR.mn : Mn NsR := ⟨fun h k => by
  obtain ⟨a, e, h⟩ := h
  exact ⟨a, e, k _ _ h⟩⟩
theorem NsR.of {H : Hp} {v : V} {xs : List Nat} (h : TupR natR H v xs) : NsR H v xs := by
  obtain ⟨a, us, e, h1, h2⟩ := h
  rw [h2.nats] at h1
  exact ⟨a, e, h1⟩
theorem NsR.new {H : Hp} {p : Addr} {xs : List Nat} : NsR (upd H p (.tup (xs.map nV))) (.ref p) xs := ⟨p, rfl, upd_same⟩
theorem LV.get {α : Type} {R : V → α → Prop} {vs : List V} {rs : List α} {i : Nat} (h : LV R vs rs) (hi : i < rs.length) : ∃ x, vs[i]? = some x ∧ R x rs[i] := h.2 i _ (List.getElem?_eq_getElem hi)
theorem LV.get0 {α : Type} {R : V → α → Prop} {vs : List V} {rs : List α} {i : Nat} (d : α) (h : LV R vs rs) (hi : i < rs.length) : ∃ x, vs[i]? = some x ∧ R x (rs.getD i d) := by
  obtain ⟨x, e, r⟩ := h.get hi
  refine ⟨x, e, ?_⟩
  rw [List.getD_eq_getElem?_getD, List.getElem?_eq_getElem hi]; exact r
theorem LV.app2 {α : Type} {R : V → α → Prop} {us vs : List V} {rs ss : List α} (h : LV R us rs) (k : LV R vs ss) : LV R (us ++ vs) (rs ++ ss) := by
  refine ⟨by rw [List.length_append, List.length_append, h.1, k.1], fun i r e => ?_⟩
  by_cases hi : i < rs.length
  · rw [List.getElem?_append_left hi] at e
    obtain ⟨y, e1, e2⟩ := h.2 i r e
    exact ⟨y, by rw [List.getElem?_append_left (by rw [h.1]; exact hi)]; exact e1, e2⟩
  · rw [List.getElem?_append_right (by omega)] at e
    obtain ⟨y, e1, e2⟩ := k.2 _ r e
    exact ⟨y, by rw [List.getElem?_append_right (by rw [h.1]; omega), h.1]; exact e1, e2⟩
theorem nat_at {xs : List Nat} {i : Nat} (h : i < xs.length) : (xs.map nV)[i]? = some (nV (xs.getD i 0)) := by
  rw [List.getElem?_map, List.getD_eq_getElem?_getD, List.getElem?_eq_getElem h]; rfl
theorem getD_mem {α : Type} {xs : List α} {i : Nat} {d : α} (h : i < xs.length) : xs.getD i d ∈ xs := by
  rw [List.getD_eq_getElem?_getD, List.getElem?_eq_getElem h]; exact List.getElem_mem h
theorem getD_of {α : Type} {xs : List α} {i : Nat} {x d : α} (h : xs[i]? = some x) : xs.getD i d = x := by
  rw [List.getD_eq_getElem?_getD, h]; rfl
theorem take_one {α : Type} {xs : List α} {i : Nat} {x : α} (h : xs[i]? = some x) : xs.take (i + 1) = xs.take i ++ [x] := by
  rw [List.take_add_one, h]; rfl
theorem take_oneD {α : Type} {xs : List α} {i : Nat} (d : α) (h : i < xs.length) : xs.take (i + 1) = xs.take i ++ [xs.getD i d] := by
  rw [take_one (List.getElem?_eq_getElem h), List.getD_eq_getElem?_getD, List.getElem?_eq_getElem h]; rfl
theorem mem_at {α : Type} {xs : List α} {x : α} (h : x ∈ xs) : ∃ i, i < xs.length ∧ xs[i]? = some x := by
  obtain ⟨i, hi, e⟩ := List.mem_iff_getElem.mp h
  exact ⟨i, hi, by rw [List.getElem?_eq_getElem hi, e]⟩
theorem flat_nats (xs : List Nat) : (xs.map nV).all flatV = true := List.all_eq_true.mpr fun v hv => by
  obtain ⟨x, _, rfl⟩ := List.mem_map.mp hv
  rfl
theorem eqV_nat (x y : Nat) : eqV (nV y) (nV x) = decide (y = x) := by
  show eqV (.int (y : Int)) (.int (x : Int)) = _
  by_cases h : y = x
  · subst h; rw [decide_eq_true rfl]; simp [eqV]
  · rw [decide_eq_false h]
    have : ¬ (y : Int) = (x : Int) := by omega
    simp [eqV, this]
theorem inV_nats (x : Nat) (xs : List Nat) : inV (nV x) (xs.map nV) = decide (x ∈ xs) := by
  unfold inV
  rw [List.any_map]
  by_cases h : x ∈ xs
  · rw [decide_eq_true h]
    refine List.any_eq_true.mpr ⟨x, h, ?_⟩
    show eqV (nV x) (nV x) = true
    rw [eqV_nat]; exact decide_eq_true rfl
  · rw [decide_eq_false h]
    refine List.any_eq_false.mpr fun y hy => ?_
    show ¬ eqV (nV y) (nV x) = true
    rw [eqV_nat]
    exact fun z => h (of_decide_eq_true z ▸ hy)
/-! ### what is met, each thing once -/
def met : List Nat → List Nat := fun l => l.foldl (fun acc x => if x ∈ acc then acc else acc ++ [x]) []
theorem met_snoc (l : List Nat) (x : Nat) : met (l ++ [x]) = if x ∈ met l then met l else met l ++ [x] := by
  unfold met; rw [List.foldl_append]; rfl
theorem list_snoc {α : Type} {p : List α → Prop} (h0 : p []) (hs : ∀ l x, p l → p (l ++ [x])) : ∀ l, p l := by
  intro l
  have : ∀ n (l : List α), l.length = n → p l := by
    intro n
    induction n with
    | zero => intro l e; rw [List.length_eq_zero_iff.mp e]; exact h0
    | succ n ih =>
      intro l e
      have hne : l ≠ [] := fun z => by rw [z] at e; cases e
      rw [← List.dropLast_concat_getLast hne]
      exact hs _ _ (ih _ (by rw [List.length_dropLast, e]; rfl))
  exact this _ l rfl
theorem met_mem (l : List Nat) : ∀ x, x ∈ met l ↔ x ∈ l := by
  refine list_snoc (p := fun l => ∀ x, x ∈ met l ↔ x ∈ l) (fun x => Iff.rfl) (fun l y ih x => ?_) l
  rw [met_snoc, List.mem_append, List.mem_singleton]
  by_cases h : y ∈ met l
  · rw [if_pos h, ih]
    exact ⟨.inl, fun z => z.elim id fun e => e ▸ (ih y).mp h⟩
  · rw [if_neg h, List.mem_append, ih, List.mem_singleton]
theorem met_nodup (l : List Nat) : (met l).Nodup := by
  refine list_snoc (p := fun l => (met l).Nodup) List.nodup_nil (fun l y ih => ?_) l
  rw [met_snoc]
  by_cases h : y ∈ met l
  · rw [if_pos h]; exact ih
  · rw [if_neg h, List.nodup_append]
    exact ⟨ih, by simp, fun a ha b hb e => h (by rw [List.mem_singleton.mp hb] at e; exact e ▸ ha)⟩
theorem met_len (l : List Nat) : (met l).length ≤ l.length := by
  refine list_snoc (p := fun l => (met l).length ≤ l.length) (Nat.le_refl _) (fun l y ih => ?_) l
  rw [met_snoc, List.length_append]
  split
  · exact Nat.le_trans ih (Nat.le_add_right _ _)
  · rw [List.length_append]; exact Nat.add_le_add_right ih _
theorem perm_nodup {α : Type} [DecidableEq α] : ∀ {xs ys : List α}, xs.Nodup → ys.Nodup → (∀ x, x ∈ xs ↔ x ∈ ys) → xs.Perm ys
  | [], ys, _, _, h => by
    cases ys with
    | nil => exact .nil
    | cons y ys => exact absurd ((h y).mpr List.mem_cons_self) (by simp)
  | x :: xs, ys, hx, hy, h => by
    have ⟨nx, hx⟩ := List.nodup_cons.mp hx
    have mx := (h x).mp List.mem_cons_self
    refine (List.Perm.cons x (perm_nodup (ys := ys.erase x) hx (hy.erase x) fun z => ?_)).trans (List.perm_cons_erase mx).symm
    rw [hy.mem_erase_iff]
    constructor
    · intro hz
      exact ⟨fun e => nx (e ▸ hz), (h z).mp (List.mem_cons_of_mem _ hz)⟩
    · rintro ⟨ne, hz⟩
      exact (List.mem_cons.mp ((h z).mpr hz)).resolve_left ne
theorem sum_cast : ∀ xs : List Nat, (xs.map (fun x : Nat => (x : Int))).sum = ((xs.sum : Nat) : Int)
  | [] => rfl
  | x :: xs => by rw [List.map_cons, List.sum_cons, List.sum_cons, sum_cast xs]; omega
theorem map_nV (xs : List Nat) : xs.map nV = (xs.map (fun x : Nat => (x : Int))).map V.int := by
  rw [List.map_map]; rfl
theorem sum_perm {xs ys : List Nat} (h : xs.Perm ys) : xs.sum = ys.sum := by
  induction h with
  | nil => rfl
  | cons x _ ih => rw [List.sum_cons, List.sum_cons, ih]
  | swap x y l => simp only [List.sum_cons]; omega
  | trans _ _ a b => exact a.trans b
theorem nat_cmp (f : Int → Int → Bool) (x y : Nat) : V.bl (f (x : Int) (y : Int)) = V.bl (f (x : Int) (y : Int)) := rfl
theorem int_nats : ∀ {ns : List Int}, (∀ x ∈ ns, ∃ k : Nat, x = (k : Int)) → ∃ ms : List Nat, ns = ms.map fun x : Nat => (x : Int)
  | [], _ => ⟨[], rfl⟩
  | x :: ns, h => by
    obtain ⟨k, rfl⟩ := h x List.mem_cons_self
    obtain ⟨ms, rfl⟩ := int_nats (ns := ns) fun y hy => h y (List.mem_cons_of_mem _ hy)
    exact ⟨k :: ms, rfl⟩
theorem nodup_of_lt {ms : List Nat} (h : (ms.map fun x : Nat => (x : Int)).Pairwise (· < ·)) : ms.Nodup := by
  rw [List.pairwise_map] at h
  exact h.imp fun {a b} z e => by subst e; omega
theorem map_Vint (ms : List Nat) : (ms.map fun x : Nat => (x : Int)).map V.int = ms.map nV := by rw [List.map_map]; rfl
theorem Same.mn {α : Type} {R : Hp → V → α → Prop} (m : Mn R) {H H' : Hp} {v : V} {x : α} (h : R H v x) (k : Same H H') : R H' v x := m.to h (TK.same k)
end Vf

set_option Elab.async false
set_option linter.all false
set_option maxRecDepth 100000
set_option maxHeartbeats 4000000
namespace Vf
open PySem PySem.Spec PyProof.Rows L2 TL
/-- the scope of a comprehension within one whose def has the scope d -/
def rel2 (inner d : Scope) : Scope := { inner with
  names := inner.names.map fun nk =>
    match nk with
    | (y, kk) => if (kk == .free && d.kind == .function && d.names.lookup y == some .cell) then (y, .cell) else (y, kk) }
def rTupleOf (K : PySem.W.Frag) : List V → Hp → VK → Prop := fun args H Q =>
  ∃ p ys, args = [V.ref p] ∧ ((SqL K H p ys ∧ ∀ l : Addr, H l = none → Q (.ref l) (upd H l (.tup ys))) ∨
    (SqT K H p ys ∧ Q (.ref p) H))
def rListOf (K : PySem.W.Frag) : List V → Hp → VK → Prop := fun args H Q =>
  ∃ p ys, args = [V.ref p] ∧ (SqL K H p ys ∨ SqT K H p ys) ∧
    ∀ l : Addr, H l = none → Q (.ref l) (upd H l (.lst ys))
def tTru (K : PySem.W.Frag) (ta : TE) : TT := fun σ H Q => ta σ H fun x H' => ∃ k, TruV K x H' k ∧ Q k H'
theorem pt_tru {X : Cx} {K : PySem.W.Frag} {a : Expr} {ta : TE} (hK : X.K = K) (ha : PE X a ta) (he : ∀ whole, isTrue a X.env whole = (do let v ← whole; standAt a.pos; holding [v] (truthy v))) : PT X a (tTru K ta) := by
  subst hK
  exact pt_truth ha he
theorem pi_or {X : Cx} {tg iter : Expr} {wa wb : TI} (ha : PI X tg iter wa) (hb : PI X tg iter wb) : PI X tg iter (fun σ H R => wa σ H R ∨ wb σ H R) :=
  ⟨fun pins s σ H R I h => h.elim (ha.run pins s σ H R I) (hb.run pins s σ H R I)⟩
theorem hu65 {k : Nat} {A : Around} (r : Room k A) : A.units + 65 < cLine := by have := r.un; omega
/-! ### tuples of numbers as data -/
def dN (xs : List Nat) : PyData := .tuple (xs.map fun x : Nat => .int (x : Int))
theorem dp_nats {K : PySem.W.Frag} {H : Hp} : ∀ xs : List Nat, DpAll K H (xs.map nV) (xs.map fun x : Nat => .int (x : Int))
  | [] => .nil
  | x :: xs => .cons (.int (x : Int)) (dp_nats xs)
theorem dN_dp {K : PySem.W.Frag} {H : Hp} {v : V} {xs : List Nat} (h : NsR H v xs) : Dp K H v (dN xs) := by
  obtain ⟨a, rfl, e⟩ := h
  exact .tup (SqT.of e) (dp_nats xs)
theorem dNs_dp {K : PySem.W.Frag} {H : Hp} : ∀ {us : List V} {F : List (List Nat)}, LV (NsR H) us F → DpAll K H us (F.map dN)
  | [], [], _ => .nil
  | [], _ :: _, h => by have := h.1; cases this
  | _ :: _, [], h => by have := h.1; cases this
  | u :: us, f :: F, h => by
    obtain ⟨x, e, r⟩ := h.2 0 f rfl
    have e := Option.some.inj e
    subst e
    exact .cons (dN_dp r) (dNs_dp ⟨Nat.succ.inj h.1, fun i r e => h.2 (i + 1) r e⟩)
theorem nats_lay : ∀ xs : List Nat, PyData.canLayAll0 (xs.map fun x : Nat => .int (x : Int)) = true
  | [] => by simp [PyData.canLayAll0]
  | x :: xs => by simp [PyData.canLayAll0, PyData.canLay0, nats_lay xs]
theorem nats_depth : ∀ xs : List Nat, PyData.depthAll (xs.map fun x : Nat => .int (x : Int)) = 0
  | [] => by simp [PyData.depthAll]
  | x :: xs => by simp [PyData.depthAll, PyData.depth, nats_depth xs]
theorem dN_lay (xs : List Nat) : (dN xs).canLay0 = true := by
  unfold dN; simp only [PyData.canLay0]; exact nats_lay xs
theorem dN_depth (xs : List Nat) : (dN xs).depth = 1 := by
  unfold dN; simp only [PyData.depth, nats_depth]
theorem dNs_lay : ∀ F : List (List Nat), PyData.canLayAll0 (F.map dN) = true
  | [] => by simp [PyData.canLayAll0]
  | x :: xs => by simp [PyData.canLayAll0, dN_lay x, dNs_lay xs]
theorem dNs_depth : ∀ F : List (List Nat), PyData.depthAll (F.map dN) ≤ 1
  | [] => by simp [PyData.depthAll]
  | x :: xs => by
    have h1 := dNs_depth xs
    have h2 := dN_depth x
    simp only [List.map_cons, PyData.depthAll]
    omega
theorem dN_shaped (xs : List Nat) : SeqAt.shaped (dN xs) = true := Bool.and_eq_true_iff.mpr ⟨dN_lay xs, decide_eq_true (by rw [dN_depth]; decide)⟩
theorem dNs_shaped (F : List (List Nat)) : SeqAt.shaped (.list (F.map dN)) = true :=
  Bool.and_eq_true_iff.mpr ⟨by simp only [PyData.canLay0]; exact dNs_lay F, decide_eq_true (by simp only [PyData.depth]; have := dNs_depth F; omega)⟩
theorem nats_eqv : ∀ xs ys : List Nat, PyData.eqvAll (xs.map fun x : Nat => .int (x : Int)) (ys.map fun x : Nat => .int (x : Int)) = decide (xs = ys)
  | [], [] => by simp [PyData.eqvAll]
  | [], _ :: _ => by simp [PyData.eqvAll]
  | _ :: _, [] => by simp [PyData.eqvAll]
  | x :: xs, y :: ys => by
    simp only [List.map_cons, PyData.eqvAll, PyData.eqv, nats_eqv xs ys]
    by_cases h1 : x = y
    · subst h1
      by_cases h2 : xs = ys
      · subst h2; simp
      · simp [h2]
    · have : ¬ (x : Int) = (y : Int) := by omega
      simp [h1, this]
theorem dN_eqv (xs ys : List Nat) : PyData.eqv (dN xs) (dN ys) = decide (xs = ys) := by
  unfold dN; simp only [PyData.eqv]; exact nats_eqv xs ys
theorem dNs_any (F : List (List Nat)) (f : List Nat) : ((F.map dN).any fun z => PyData.eqv z (dN f)) = decide (f ∈ F) := by
  rw [List.any_map]
  by_cases h : f ∈ F
  · rw [decide_eq_true h]
    exact List.any_eq_true.mpr ⟨f, h, by show PyData.eqv (dN f) (dN f) = true; rw [dN_eqv]; exact decide_eq_true rfl⟩
  · rw [decide_eq_false h]
    refine List.any_eq_false.mpr fun y hy => ?_
    show ¬ PyData.eqv (dN y) (dN f) = true
    rw [dN_eqv]
    exact fun z => h (of_decide_eq_true z ▸ hy)
/-- sorted of a list of tuples of equally many small ints -/
def rSortX (K : PySem.W.Frag) : List V → Hp → VK → Prop := fun vs H Q => ∃ (d : Nat) (B : Int), 1 ≤ d ∧ rSortU K d B vs H Q
theorem cr_sortX {X : Cx} : CallR X (.builtin "sorted") (rSortX X.K) := by
  intro pins s σ H vs us Q I r h
  obtain ⟨d, B, hd, h⟩ := h
  exact cr_sortT hd pins s σ H vs us Q I r h
theorem LV.perm {α : Type} {R : V → α → Prop} {us ws : List V} (hp : us.Perm ws) : ∀ {rs : List α}, LV R ws rs → ∃ ss, LV R us ss ∧ ss.Perm rs := by
  induction hp with
  | nil =>
    intro rs h
    have : rs = [] := List.length_eq_zero_iff.mp h.1.symm
    subst this
    exact ⟨[], LV.nil, .nil⟩
  | @cons x l₁ l₂ _ ih =>
    intro rs h
    cases rs with
    | nil => have := h.1; cases this
    | cons r rs =>
      obtain ⟨y, e, hr⟩ := h.2 0 r rfl
      have e := Option.some.inj e
      subst e
      obtain ⟨ss, h1, h2⟩ := ih (rs := rs) ⟨Nat.succ.inj h.1, fun i r e => h.2 (i + 1) r e⟩
      refine ⟨r :: ss, ⟨by rw [List.length_cons, List.length_cons, h1.1], fun i q e => ?_⟩, h2.cons r⟩
      cases i with
      | zero => exact ⟨_, rfl, (Option.some.inj e) ▸ hr⟩
      | succ i => exact h1.2 i q e
  | swap x y l =>
    intro rs h
    match rs, h with
    | [], h => have := h.1; cases this
    | [_], h => have := h.1; cases this
    | r :: s :: rs, h =>
      obtain ⟨y1, e, hr⟩ := h.2 0 r rfl
      have e := Option.some.inj e
      subst e
      obtain ⟨y2, e, hs⟩ := h.2 1 s rfl
      have e := Option.some.inj e
      subst e
      refine ⟨s :: r :: rs, ⟨h.1, fun i q e => ?_⟩, .swap _ _ _⟩
      match i, e with
      | 0, e => exact ⟨_, rfl, (Option.some.inj e) ▸ hs⟩
      | 1, e => exact ⟨_, rfl, (Option.some.inj e) ▸ hr⟩
      | i + 2, e => exact h.2 (i + 2) q e
  | trans _ _ a b =>
    intro rs h
    obtain ⟨ss, h1, p1⟩ := b h
    obtain ⟨ts, h2, p2⟩ := a h1
    exact ⟨ts, h2, p2.trans p1⟩
theorem fdiv_nV (a b : Nat) : V.int ((a : Int).fdiv (b : Int)) = nV (a / b) := by
  rw [Int.fdiv_eq_ediv_of_nonneg _ (by omega)]; rfl
theorem fmod_nV (a b : Nat) : V.int ((a : Int).fmod (b : Int)) = nV (a % b) := by
  rw [Int.fmod_eq_emod_of_nonneg _ (by omega)]; rfl
theorem low_snoc {os S : List Nat} {j g : Nat} (lo : os.length = j) (ho : ∀ s, s < j → os.getD s 0 < S.getD s 0) (hg : g < S.getD j 0) : ∀ s, s < j + 1 → (os ++ [g]).getD s 0 < S.getD s 0 := fun s hs => by
  rcases Nat.lt_or_ge s j with h | h
  · rw [List.getD_eq_getElem?_getD, List.getElem?_append_left (by omega), ← List.getD_eq_getElem?_getD]; exact ho s h
  · have : s = j := by omega
    subst this
    rw [List.getD_eq_getElem?_getD, List.getElem?_append_right (by omega), lo, Nat.sub_self]; exact hg
theorem PE.to {X : Cx} {e : Expr} {t t' : TE} (h : PE X e t) (i : ∀ σ H Q, t' σ H Q → t σ H Q) : PE X e t' := ⟨fun pins s σ H Q I hq => h.run pins s σ H Q I (i σ H Q hq)⟩
theorem rgV_nats (n : Nat) : rgV 0 (n : Int) = (List.range n).map nV := by
  unfold rgV
  rw [show ((n : Int) - 0).toNat = n by omega]
  refine List.map_congr_left fun i _ => ?_
  rw [Int.zero_add]; rfl
theorem toNat_k {n : Nat} : ((n : Nat) : Int).toNat = n := Int.toNat_natCast n
theorem int0 (i : Nat) : V.int (0 + (i : Int)) = nV i := by rw [Int.zero_add]; rfl
theorem ixN_last {n : Nat} (h : 0 < n) : ixN n (-1) = some (n - 1) := by
  unfold ixN
  rw [if_neg (by decide), if_pos (by omega)]
  congr 1
  omega
theorem atI_l {α : Type} {xs : List α} {v : α} (h : xs[xs.length - 1]? = some v) : atI xs (-1) = some v := by
  have h0 : 0 < xs.length := by
    have := (List.getElem?_eq_some_iff.mp h).1
    omega
  unfold atI
  rw [ixN_last h0]
  exact h
def isN (lo hi : Nat) : V → Bool
  | .int g => decide ((lo : Int) ≤ g) && decide (g ≤ (hi : Int))
  | _ => false
theorem isN_of {lo hi : Nat} {v : V} (h : isN lo hi v = true) : ∃ m : Nat, v = nV m ∧ lo ≤ m ∧ m ≤ hi := by
  cases v with
  | int g =>
    have ⟨a, b⟩ := Bool.and_eq_true_iff.mp h
    have a := of_decide_eq_true a
    have b := of_decide_eq_true b
    exact ⟨g.toNat, by unfold nV; rw [Int.toNat_of_nonneg (by omega)], by omega, by omega⟩
  | _ => cases h
theorem none_kp {d : Addr} {H H' : Hp} {b : Addr} (k : Kp d H H') (n : b ≠ d) (h : H' b = none) : H b = none := by
  cases e : H b with
  | none => rfl
  | some o => rw [k _ _ n e] at h; cases h
theorem none_same {H H' : Hp} {b : Addr} (k : Same H H') (h : H' b = none) : H b = none := by
  cases e : H b with
  | none => rfl
  | some o => rw [k _ _ e] at h; cases h
theorem draw_nt {m r : Int} (h : 0 < m) (e1 : m < 2 → r = 0) (e2 : 2 ≤ m → 0 ≤ r ∧ r < m) : ∃ j : Nat, r = (j : Int) ∧ (j : Int) < m := by
  by_cases c : m < 2
  · exact ⟨0, e1 c, by omega⟩
  · have := e2 (by omega)
    exact ⟨r.toNat, by omega, by omega⟩
end Vf

set_option Elab.async false
set_option linter.all false
set_option maxRecDepth 100000
set_option maxHeartbeats 4000000
namespace Vf
open PySem PySem.Spec PyProof.Rows L2 TL
/-! ### signs_of, and the sum of the widths -/
def hyph (zs : List Nat) (j : Nat) : List Nat := if j < zs.length then [45] else []
theorem pieceN_eq (S : Sty) (zs : List Nat) (i j : Nat) : pieceN S zs i j = partN S zs i j (j - i) ++ hyph zs j := rfl
def bitN (S : Sty) (zs : List Nat) (j k : Nat) : List Nat := zs.getD k 0 :: List.replicate (wAt S zs j k - 1) 95
theorem partN_succ (S : Sty) (zs : List Nat) (i j n : Nat) : partN S zs i j (n + 1) = partN S zs i j n ++ bitN S zs j (i + n) := by
  unfold partN
  rw [List.range'_1_concat, List.flatMap_append]
  congr 1
  show bitN S zs j (i + n) ++ [] = _
  rw [List.append_nil]
def bitsN (S : Sty) (zs : List Nat) (i j n : Nat) : List (List Nat) := (List.range' i n).map (bitN S zs j)
theorem bitsN_succ (S : Sty) (zs : List Nat) (i j n : Nat) : bitsN S zs i j (n + 1) = bitsN S zs i j n ++ [bitN S zs j (i + n)] := by
  unfold bitsN
  rw [List.range'_1_concat, List.map_append]; rfl
theorem bits_flat (S : Sty) (zs : List Nat) (i j n : Nat) : (bitsN S zs i j n).flatten = partN S zs i j n := rfl
section
variable {P : Program} {w : World} {K : PySem.W.Frag} {mg : Str → Option Value} {base : Heap}
def spSignsOf : Sp := fun vs H Q _ => ∃ (v : V) (S : Sty) (zs : List Nat) (i j : Nat), vs = [v, sV zs, .int (i : Int), .int (j : Int)] ∧ StyV H v S ∧ StyOk S ∧ WdOk zs ∧ i ≤ j ∧ j ≤ zs.length ∧ ∀ H', Same H H' → Q (sV (pieceN S zs i j)) H'
theorem ok_signs_of (T : Txt K mg) : FnOk P w K mg base CX0 4 T.a_signs_of T.d_signs_of ["style", "word", "first", "behind"] spSignsOf := by
  have G_width_at : FnOk P w K mg base CX0 3 T.a_width_at T.d_width_at ["style", "word", "at", "behind"] spWidthAt := ok_width_at T
  refine T.D_signs_of.F.ok sc_signs_of (fun vs H Q E h => ?_) (fun cdv A outer s H vs Q E hr h => ?_)
  · obtain ⟨v, S, zs, k, j, rfl, _⟩ := h
    rfl
  · obtain ⟨v, S, zs, i, j, rfl, hv, ok, wd, hij, hj, q⟩ := h
    refine ⟨_, (pss_cons (ps_set (i := 4) sc_signs_of.nd rfl (.inl rfl) (pe_lst pa_nil))
      (pss_cons (ps_for PassesOwn.never rfl (pi_range2 (by rfl) T.n_range (pa_cons (pv 2) (pa_cons (pv 3) pa_nil))) (pg_name (i := 5) sc_signs_of.nd rfl (.inl rfl)) (pss_one (ps_expr (pe_bm PySem.F.plainAttrs_list PySem.F.slot_list_append PySem.F.type_list_append mt_append (pv 4) (pa_cons (pe_op op_add_str (pe_ix ix_str (pv 1) (pv 5) (fun _ _ => rfl)) (pe_op op_mul_str (pe_glob (v := .str "_") (by rfl) T.m_FILLER ⟨_, rfl⟩) (pe_op op_sub (pe_call G_width_at (hr.mono (by decide)) (by rfl) T.D_width_at.G T.D_width_at.F.kp T.D_width_at.B .nil pass0 (pa_cons (pv 0) (pa_cons (pv 1) (pa_cons (pv 5) (pa_cons (pv 3) pa_nil))))) pe_int))) pa_nil)))))
      (pss_cons (ps_if (pt_cmpR op_lt (pv 3) (pe_callB call_len_str (by rfl) T.n_len PySem.boot_len (pa_cons (pv 1) pa_nil)) (nomark _)) (pss_one (ps_expr (pe_bm PySem.F.plainAttrs_list PySem.F.slot_list_append PySem.F.type_list_append mt_append (pv 4) (pa_cons (pe_glob (v := .str "-") (by rfl) T.m_HYPHEN ⟨_, rfl⟩) pa_nil)))) pss_nil)
      (pss_one (ps_ret (pe_join pe_str (pv 4))))))), ?_⟩
    have hb : (mkS zs).length ≤ sizeLine := by rw [mkS_len]; exact big_ok (by have := wd.len; omega)
    have hl := wd.len
    have e0 : (("" : Str)).length = 0 := by rw [empty_mk, mkS_len]; rfl
    have pl := partN_len ok zs i j (j - i)
    refine ⟨by show 0 ≤ sizeLine; decide, fun D nD => ?_⟩
    have k0 : Same H (upd H D (.lst [])) := same_upd (Same.refl H) nD
    refine ⟨_, rfl, _, rfl, i, j, rfl, ⟨by omega, by omega, by omega, by omega⟩, ?_⟩
    have en : ((j : Int) - (i : Int)).toNat = j - i := by omega
    rw [en]
    refine for_it walk_range (fun n σ' H' => ∃ x5 : Option V, σ' = [some v, some (sV zs), some (.int (i : Int)), some (.int (j : Int)), some (.ref D), x5] ∧ Same H H' ∧ H' D = some (.lst ((bitsN S zs i j n).map sV))) ⟨none, rfl, k0, upd_same⟩ (fun _ _ _ _ _ => trivial) ?_ ?_
    · rintro n x σ' H1 H2 hn ⟨x5, rfl, k1, e1⟩ ⟨rfl, hx⟩
      have hx : x = .int ((i + n : Nat) : Int) := hx
      subst hx
      have g0 := wd.at (show i + n < zs.length by omega)
      refine ⟨.ref D, rfl, .inl ⟨rfl, _, .inl (.inl e1)⟩, _, rfl, _, rfl, mkS zs, _, _, rfl, rfl, hb, atI_nat g0.1, ?_⟩
      refine ⟨_, rfl, _, rfl, _, rfl, _, rfl, v, S, zs, i + n, j, rfl, hv.mono (same_tup k1), ok, wd, by omega, hj, fun H3 k3 => ?_⟩
      have wb := wAt_bd ok zs j (i + n)
      obtain ⟨u, eu, hu⟩ : ∃ u : Nat, wAt S zs j (i + n) = u + 1 ∧ u ≤ 2 := ⟨wAt S zs j (i + n) - 1, by omega, by omega⟩
      have mf := mul_fill hu
      have e9 : ((u + 1 : Nat) : Int) - 1 = (u : Int) := by omega
      rw [eu]
      refine ⟨_, _, rfl, rfl, _, _, rfl, rfl, by rw [e9]; exact mf.1, ?_⟩
      rw [e9, mf.2]
      refine ⟨_, _, rfl, rfl, ?_, ?_⟩
      · show 1 + (mkS (List.replicate u 95)).length ≤ _
        rw [mkS_len, List.length_replicate]; exact big_ok (by omega)
      refine ⟨D, _, _, rfl, rfl, k3 _ _ e1, ?_, some (.int ((i + n : Nat) : Int)), rfl, same_mut (k1.trans k3) nD, ?_⟩
      · unfold bitsN
        rw [List.length_map, List.length_map, List.length_range']; exact lt_s (by omega)
      · rw [upd_same, bitsN_succ, List.map_append]
        have e7 : bitN S zs j (i + n) = [zs.getD (i + n) 0] ++ List.replicate u 95 := by
          unfold bitN
          rw [eu]; rfl
        rw [e7]
        have e8 : sV ([zs.getD (i + n) 0] ++ List.replicate u 95) = V.str (mkS [zs.getD (i + n) 0] ++ mkS (List.replicate u 95)) := by rw [mkS_app]; rfl
        show _ = some (HO.lst (_ ++ [sV ([zs.getD (i + n) 0] ++ List.replicate u 95)]))
        rw [e8]; rfl
    · rintro σ' H1 ⟨x5, rfl, k1, e1⟩
      refine ⟨_, rfl, _, rfl, mkS zs, rfl, hb, _, _, rfl, rfl, _, rfl, ite2 (fun c => ?_) (fun c => ?_)⟩
      · have c := of_decide_eq_true c
        rw [mkS_len] at c
        refine ⟨.ref D, rfl, .inl ⟨rfl, _, .inl (.inl e1)⟩, D, _, _, rfl, rfl, e1, ?_, ?_⟩
        · unfold bitsN
          rw [List.length_map, List.length_map, List.length_range']; exact lt_s (by omega)
        have e2 : (bitsN S zs i j (j - i)).map sV ++ [V.str ("-" : Str)] = ((bitsN S zs i j (j - i) ++ [[45]]).map mkS).map V.str := by
          rw [← map_sV, List.map_append]; rfl
        refine ⟨⟨_, rfl⟩, _, rfl, _, D, (bitsN S zs i j (j - i) ++ [[45]]).map mkS, rfl, rfl, .inl (SqL.of (by rw [upd_same, ← e2])), ?_, ?_⟩
        · rw [sum_len, e0, List.flatten_append, List.length_append, bits_flat]
          show _ + 1 + _ * 0 ≤ _
          omega
        · rw [join_mk, List.flatten_append, bits_flat]
          have q2 : ∀ H', Same H H' → Q (sV (partN S zs i j (j - i) ++ [[45]].flatten)) H' := by
            rw [pieceN_eq, show hyph zs j = [45] from if_pos (by omega)] at q
            exact q
          exact q2 _ (same_mut k1 nD)
      · refine ⟨⟨_, rfl⟩, _, rfl, _, D, (bitsN S zs i j (j - i)).map mkS, rfl, rfl, .inl (SqL.of (by rw [e1, map_sV])), ?_, ?_⟩
        · rw [sum_len, e0, bits_flat]; omega
        · rw [join_mk, bits_flat]
          have := q _ k1
          rw [pieceN_eq, show hyph zs j = [] from if_neg fun z => c (decide_eq_true (by rw [mkS_len]; omega)), List.append_nil] at this
          exact this
end
end Vf

set_option Elab.async false
set_option linter.all false
set_option maxRecDepth 100000
set_option maxHeartbeats 4000000
namespace Vf
open PySem PySem.Spec PyProof.Rows L2 TL
/-! ### lines: the mathematics -/
def nP (S : Sty) (z : List Nat) : Nat := (places S z).length
def wz (Z : List (List Nat)) (i : Nat) : List Nat := Z.getD i []
def rowL (S : Sty) (Z : List (List Nat)) (i : Nat) : List (Nat × Nat) := (List.range (nP S (wz Z i) + 1)).map fun k => (i, k)
def posL (S : Sty) (Z : List (List Nat)) : List (Nat × Nat) := (List.range Z.length).flatMap (rowL S Z) ++ [(Z.length, 0)]
def eA (S : Sty) (z : List Nat) (k : Nat) : Nat := (ends S z).getD k 0
theorem eA_at {S : Sty} {z : List Nat} {k : Nat} (h : k ≤ nP S z + 1) : (ends S z)[k]? = some (eA S z k) := by
  have hl : k < (ends S z).length := by rw [ends_len]; unfold nP at h; omega
  unfold eA
  rw [List.getD_eq_getElem?_getD, List.getElem?_eq_getElem hl]; rfl
/-- the width of the piece from the k-th parting to the m-th (0: to the end) -/
def pcW (S : Sty) (z : List Nat) (k m : Nat) : Nat := pieceW S z (eA S z k) (eA S z (if m = 0 then nP S z + 1 else m))
def kkA (k t : Nat) : Nat := if t = 0 then k else 0
/-- the width of the first t words from (i, k), each with a space behind it -/
def ahW (S : Sty) (Z : List (List Nat)) (i k : Nat) : Nat → Nat
  | 0 => 0
  | t + 1 => ahW S Z i k t + (pcW S (wz Z (i + t)) (kkA k t) 0 + 1)
theorem ahW_mono {S : Sty} {Z : List (List Nat)} {i k : Nat} {t : Nat} (d : Nat) : ahW S Z i k t + d ≤ ahW S Z i k (t + d) := by
  induction d with
  | zero => exact Nat.le_refl _
  | succ d ih =>
    show _ ≤ ahW S Z i k (t + d) + (pcW S (wz Z (i + (t + d))) (kkA k (t + d)) 0 + 1)
    omega
def natW (S : Sty) (Z : List (List Nat)) (i k : Nat) (y : Nat × Nat) : Nat := if y.2 = 0 then ahW S Z i k (y.1 - i) - 1 else ahW S Z i k (y.1 - i) + pcW S (wz Z y.1) (kkA k (y.1 - i)) y.2
def headL (i t : Nat) : List (Nat × Nat) := if t = 0 then [] else [(i + t, 0)]
def innerL (S : Sty) (Z : List (List Nat)) (i k t : Nat) : List (Nat × Nat) := (List.range (nP S (wz Z (i + t)) - kkA k t)).map fun s => (i + t, kkA k t + 1 + s)
def afterL (S : Sty) (Z : List (List Nat)) (i k : Nat) : List (Nat × Nat) := (List.range (Z.length - i)).flatMap (fun t => headL i t ++ innerL S Z i k t) ++ [(Z.length, 0)]
def fitO (M : Nat) (S : Sty) (Z : List (List Nat)) (i k : Nat) (y : Nat × Nat) : Option ((Nat × Nat) × Nat) := if natW S Z i k y ≤ M then some (y, natW S Z i k y) else none
def endsF (M : Nat) (S : Sty) (Z : List (List Nat)) (i k : Nat) : List ((Nat × Nat) × Nat) := (afterL S Z i k).filterMap (fitO M S Z i k)
theorem fm_append {α β : Type} (f : α → Option β) (a b : List α) : (a ++ b).filterMap f = a.filterMap f ++ b.filterMap f := List.filterMap_append
theorem fm_none {α β : Type} {f : α → Option β} {l : List α} (h : ∀ x ∈ l, f x = none) : l.filterMap f = [] := by
  refine List.eq_nil_iff_forall_not_mem.mpr fun x hx => ?_
  obtain ⟨y, hy, e⟩ := List.mem_filterMap.mp hx
  rw [h y hy] at e; cases e
theorem fm_one {α β : Type} {f : α → Option β} {x : α} : [x].filterMap f = (f x).toList := by
  cases h : f x with
  | none => rw [List.filterMap_cons_none h]; rfl
  | some y => rw [List.filterMap_cons_some h]; rfl
/-- once a whole word's end lies too far, nothing further fits -/
theorem fit_far {M : Nat} {S : Sty} {Z : List (List Nat)} {i k t : Nat} (h : M < ahW S Z i k t - 1) {y : Nat × Nat} (hy : i + t ≤ y.1) : fitO M S Z i k y = none := by
  unfold fitO
  rw [if_neg]
  have := ahW_mono (S := S) (Z := Z) (i := i) (k := k) (t := t) (y.1 - i - t)
  rw [show t + (y.1 - i - t) = y.1 - i by omega] at this
  unfold natW
  split <;> omega
theorem ends_cut {M : Nat} {S : Sty} {Z : List (List Nat)} {i k t : Nat} (hi : i ≤ Z.length) (ht : i + t ≤ Z.length) (h : M < ahW S Z i k t - 1) :
    endsF M S Z i k = ((List.range t).flatMap fun t => headL i t ++ innerL S Z i k t).filterMap (fitO M S Z i k) := by
  unfold endsF afterL
  obtain ⟨d, hd⟩ : ∃ d, Z.length - i = t + d := ⟨Z.length - i - t, by omega⟩
  rw [hd, List.range_add, List.flatMap_append, List.append_assoc, fm_append]
  have : (List.flatMap (fun t => headL i t ++ innerL S Z i k t) (List.map (fun x => t + x) (List.range d)) ++ [(Z.length, 0)]).filterMap (fitO M S Z i k) = [] := fm_none fun y hy => by
    refine fit_far h ?_
    rcases List.mem_append.mp hy with z | z
    · obtain ⟨u, hu, hy⟩ := List.mem_flatMap.mp z
      obtain ⟨v, _, rfl⟩ := List.mem_map.mp hu
      rcases List.mem_append.mp hy with w | w
      · unfold headL at w
        split at w
        · cases w
        · rw [List.mem_singleton.mp w]; show i + t ≤ i + (t + v); omega
      · unfold innerL at w
        obtain ⟨s, _, rfl⟩ := List.mem_map.mp w
        show i + t ≤ i + (t + v); omega
    · rw [List.mem_singleton.mp z]; exact ht
  rw [this, List.append_nil]
/-- a list or a tuple of these things -/
def SeqH (H : Hp) (a : Addr) (us : List V) : Prop := H a = some (.tup us) ∨ H a = some (.lst us)
theorem SeqH.same {H H' : Hp} {a : Addr} {us : List V} (h : SeqH H a us) (k : Same H H') : SeqH H' a us := h.imp (k _ _) (k _ _)
theorem SeqH.rix {K : PySem.W.Frag} {H : Hp} {a : Addr} {us : List V} (h : SeqH H a us) {i : Int} {v : V} {Q : VK} (e : atI us i = some v) (q : Q v H) : rIx K (.ref a) (.int i) H Q :=
  h.elim (fun h => .inr (.inl ⟨a, us, i, v, rfl, rfl, SqT.of h, e, q⟩)) (fun h => .inl ⟨a, us, i, v, rfl, rfl, SqL.of h, e, q⟩)
theorem SeqH.len {K : PySem.W.Frag} {H : Hp} {a : Addr} {us : List V} (h : SeqH H a us) : LenV K (.ref a) H us.length := h.elim (fun h => .inr ⟨us, SqT.of h, rfl⟩) (fun h => .inl ⟨us, SqL.of h, rfl⟩)
def ShV (S : Sty) (H : Hp) (x : V) (z : List Nat) : Prop := ShapeV H x S z
theorem ShV.kt {S : Sty} {H H' : Hp} {x : V} {z : List Nat} (h : ShV S H x z) (k : ∀ a xs, H a = some (.tup xs) → H' a = some (.tup xs)) : ShV S H' x z := ShapeV.mono h k
structure WdsOk (S : Sty) (Z : List (List Nat)) : Prop where
  st : StyOk S
  ne : ∀ z ∈ Z, 0 < z.length
  pl : ∀ z ∈ Z, nP S z ≤ 16
  ln : Z.length ≤ 40
theorem wz_at {Z : List (List Nat)} {i : Nat} (h : i < Z.length) : Z[i]? = some (wz Z i) := by
  unfold wz
  rw [List.getD_eq_getElem?_getD, List.getElem?_eq_getElem h]; rfl
theorem wz_mem {Z : List (List Nat)} {i : Nat} (h : i < Z.length) : wz Z i ∈ Z := List.mem_of_getElem? (wz_at h)
theorem natV_nV (n : Nat) : natV n = nV n := rfl
end Vf

set_option Elab.async false
set_option linter.all false
set_option maxRecDepth 100000
set_option maxHeartbeats 4000000
namespace Vf
open PySem PySem.Spec PyProof.Rows L2 TL
theorem ifD {p A B : Prop} [Decidable p] (h : p → A) (g : ¬ p → B) : if decide p = true then A else B := by
  by_cases c : p
  · rw [if_pos (decide_eq_true c)]; exact h c
  · rw [if_neg (by rw [decide_eq_false c]; decide)]; exact g c
theorem kt_new {H : Hp} {p : Addr} {o : HO} (n : H p = none) : ∀ a xs, H a = some (.tup xs) → upd H p o a = some (.tup xs) := fun a xs e => by rw [upd_ne (ne_of_none e n)]; exact e
theorem kt_mut {H : Hp} {D : Addr} {ys zs : List V} (eD : H D = some (.lst ys)) : ∀ a xs, H a = some (.tup xs) → upd H D (.lst zs) a = some (.tup xs) := fun a xs e => by
  rw [upd_ne (fun z => by rw [z, eD] at e; cases e)]; exact e
def EnV (H : Hp) (x : V) (r : (Nat × Nat) × Nat) : Prop := ∃ b b2, x = .ref b ∧ H b = some (.tup [.ref b2, nV r.2]) ∧ H b2 = some (.tup [nV r.1.1, nV r.1.2])
theorem EnV.kt {H H' : Hp} {x : V} {r : (Nat × Nat) × Nat} (h : EnV H x r) (k : ∀ a xs, H a = some (.tup xs) → H' a = some (.tup xs)) : EnV H' x r := by
  obtain ⟨b, b2, e, f, g⟩ := h
  exact ⟨b, b2, e, k _ _ f, k _ _ g⟩
/-- one more end in the list at l -/
theorem end_app {H H3 : Hp} {l p p2 : Addr} {zs : List V} {rs : List ((Nat × Nat) × Nat)} {a b w : Nat} {va vb vw : V} (k : Same H H3) (nl : H l = none) (el : H3 l = some (.lst zs)) (lz : LV (EnV H3) zs rs) (ha : va = nV a) (hb : vb = nV b) (hw : vw = nV w)
    (np : H3 p = none) (np2 : upd H3 p (.tup [va, vb]) p2 = none) :
    upd (upd H3 p (.tup [va, vb])) p2 (.tup [.ref p, vw]) l = some (.lst zs) ∧ Same H (upd (upd (upd H3 p (.tup [va, vb])) p2 (.tup [.ref p, vw])) l (.lst (zs ++ [.ref p2]))) ∧
    LV (EnV (upd (upd (upd H3 p (.tup [va, vb])) p2 (.tup [.ref p, vw])) l (.lst (zs ++ [.ref p2])))) (zs ++ [.ref p2]) (rs ++ [((a, b), w)]) := by
  subst ha hb hw
  have k1 := same_upd (o := .tup [nV a, nV b]) (Same.refl H3) np
  have e1 : upd H3 p (.tup [nV a, nV b]) p = some (.tup [nV a, nV b]) := upd_same
  generalize upd H3 p (.tup [nV a, nV b]) = H4 at k1 e1 np2
  have k2 := same_upd (o := .tup [.ref p, nV w]) (Same.refl H4) np2
  have e2 : upd H4 p2 (.tup [.ref p, nV w]) p2 = some (.tup [.ref p, nV w]) := upd_same
  generalize upd H4 p2 (.tup [.ref p, nV w]) = H5 at k2 e2
  have k12 := k1.trans k2
  have el5 := k12 _ _ el
  exact ⟨el5, same_mut (k.trans k12) nl, LV.snoc (lz.mono fun x r z => (z.kt fun a xs e => k12 _ _ e).kt (kt_mut el5)) ⟨p2, p, rfl, kt_mut el5 _ _ e2, kt_mut el5 _ _ (k2 _ _ e1)⟩⟩
theorem pcW_mid {S : Sty} {z : List Nat} {k m : Nat} (h : m ≠ 0) : pcW S z k m = pieceW S z (eA S z k) (eA S z m) := by
  unfold pcW; rw [if_neg h]
theorem pcW_end {S : Sty} {z : List Nat} {k : Nat} : pcW S z k 0 = pieceW S z (eA S z k) (eA S z (nP S z + 1)) := by
  unfold pcW; rw [if_pos rfl]
section
variable {P : Program} {w : World} {K : PySem.W.Frag} {mg : Str → Option Value} {base : Heap}
def spEndsFrom : Sp := fun vs H Q _ => ∃ (sa ba : Addr) (us : List V) (S : Sty) (Z : List (List Nat)) (M i k : Nat), vs = [nV M, .ref sa, .ref ba] ∧ H sa = some (.tup us) ∧ LV (ShV S H) us Z ∧ WdsOk S Z ∧ H ba = some (.tup [nV i, nV k]) ∧ i < Z.length ∧ k ≤ nP S (wz Z i) ∧
  ∀ H' l zs, Same H H' → H l = none → H' l = some (.lst zs) → LV (EnV H') zs (endsF M S Z i k) → Q (.ref l) H'
theorem ok_ends_from (T : Txt K mg) : FnOk P w K mg base CX0 2 T.a_ends_from T.d_ends_from ["measure", "shapes", "begin"] spEndsFrom := by
  have G_piece_width : FnOk P w K mg base CX0 1 T.a_piece_width T.d_piece_width ["shape", "first", "last"] spPieceWidth := ok_piece_width T
  refine T.D_ends_from.F.ok sc_ends_from (fun vs H Q E h => ?_) (fun cdv A outer s H vs Q E hr h => ?_)
  · obtain ⟨_, _, _, _, _, _, _, _, rfl, _⟩ := h
    rfl
  · obtain ⟨sa, ba, us, S, Z, M, i, k, rfl, es, lv, ok, eb, hi, hk, q⟩ := h
    have l40 := ok.ln
    have lus := lv.1
    refine ⟨_, (pss_cons (ps_asg (pv 2) (pg_tup (by rfl) (pgs_cons (pg_name (i := 3) sc_ends_from.nd rfl (.inl rfl)) (pgs_cons (pg_name (i := 4) sc_ends_from.nd rfl (.inl rfl)) pgs_nil))))
      (pss_cons (ps_set (i := 5) sc_ends_from.nd rfl (.inl rfl) (pe_lst pa_nil))
      (pss_cons (ps_set (i := 6) sc_ends_from.nd rfl (.inl rfl) pe_int)
      (pss_cons (ps_for PassesOwn.never rfl (pi_range2 (by rfl) T.n_range (pa_cons (pv 3) (pa_cons (pe_callB call_len_seq (by rfl) T.n_len PySem.boot_len (pa_cons (pv 1) pa_nil)) pa_nil))) (pg_name (i := 7) sc_ends_from.nd rfl (.inl rfl)) (Evl.pss_cut (ps_if (pt_cmpR op_gt (pv 7) (pv 3) (nomark _)) (pss_cons (ps_if (pt_cmpR op_gt (pe_op op_sub (pv 6) pe_int) (pv 0) (nomark _)) (pss_one (ps_ret (pv 5))) pss_nil)
      (pss_cons (ps_expr (pe_bm PySem.F.plainAttrs_list PySem.F.slot_list_append PySem.F.type_list_append mt_append (pv 5) (pa_cons (pe_tup (pa_cons (pe_tup (pa_cons (pv 7) (pa_cons pe_int pa_nil))) (pa_cons (pe_op op_sub (pv 6) pe_int) pa_nil))) pa_nil)))
      (pss_one (ps_set (i := 4) sc_ends_from.nd rfl (.inl rfl) pe_int)))) pss_nil)
      (pss_cons (ps_for PassesOwn.never rfl (pi_range2 (by rfl) T.n_range (pa_cons (pe_op op_add (pv 4) pe_int) (pa_cons (pe_op op_add (pe_callB call_len_seq (by rfl) T.n_len PySem.boot_len (pa_cons (pe_ix ix_tup (pe_ix ix_tup (pv 1) (pv 7) (fun _ _ => rfl)) pe_int (fun _ _ => rfl)) pa_nil)) pe_int) pa_nil))) (pg_name (i := 8) sc_ends_from.nd rfl (.inl rfl)) (pss_cons (ps_set (i := 9) sc_ends_from.nd rfl (.inl rfl) (pe_op op_add (pv 6) (pe_call G_piece_width (hr.mono (by decide)) (by rfl) T.D_piece_width.G T.D_piece_width.F.kp T.D_piece_width.B .nil pass0 (pa_cons (pe_ix ix_tup (pv 1) (pv 7) (fun _ _ => rfl)) (pa_cons (pv 4) (pa_cons (pv 8) pa_nil))))))
      (pss_one (ps_if (pt_cmpR op_le (pv 9) (pv 0) (nomark _)) (pss_one (ps_expr (pe_bm PySem.F.plainAttrs_list PySem.F.slot_list_append PySem.F.type_list_append mt_append (pv 5) (pa_cons (pe_tup (pa_cons (pe_tup (pa_cons (pv 7) (pa_cons (pv 8) pa_nil))) (pa_cons (pv 9) pa_nil))) pa_nil)))) pss_nil))))
      (pss_one (ps_aug (i := 6) sc_ends_from.nd rfl (.inl rfl) (pe_op op_add (pe_call G_piece_width (hr.mono (by decide)) (by rfl) T.D_piece_width.G T.D_piece_width.F.kp T.D_piece_width.B .nil pass0 (pa_cons (pe_ix ix_tup (pv 1) (pv 7) (fun _ _ => rfl)) (pa_cons (pv 4) (pa_cons pe_int pa_nil)))) pe_int) ip_add)))))
      (pss_cons (ps_if (pt_cmpR op_le (pe_op op_sub (pv 6) pe_int) (pv 0) (nomark _)) (pss_one (ps_expr (pe_bm PySem.F.plainAttrs_list PySem.F.slot_list_append PySem.F.type_list_append mt_append (pv 5) (pa_cons (pe_tup (pa_cons (pe_tup (pa_cons (pe_callB call_len_seq (by rfl) T.n_len PySem.boot_len (pa_cons (pv 1) pa_nil)) (pa_cons pe_int pa_nil))) (pa_cons (pe_op op_sub (pv 6) pe_int) pa_nil))) pa_nil)))) pss_nil)
      (pss_one (ps_ret (pv 5)))))))), ?_⟩
    refine ⟨_, rfl, ba, _, rfl, SqT.of eb, rfl, _, _, rfl, _, _, rfl, rfl, ?_⟩
    refine ⟨by show 0 ≤ sizeLine; decide, fun l nl => ?_⟩
    have k1 := same_upd (o := .lst []) (Same.refl H) nl
    have el : upd H l (.lst []) l = some (.lst []) := upd_same
    generalize upd H l (.lst []) = H1 at k1 el
    have enn : ((Z.length : Int) - (i : Int)).toNat = Z.length - i := by omega
    refine ⟨_, rfl, _, rfl, sa, us, rfl, .inr (SqT.of (k1 _ _ es)), (i : Int), (Z.length : Int), by rw [lus]; rfl, by omega, ?_⟩
    rw [enn]
    refine for_it walk_range (fun t σ' H' => ∃ (x4 x7 x8 x9 : Option V) (zs : List V), σ' = [some (nV M), some (.ref sa), some (.ref ba), some (nV i), x4, some (.ref l), some (nV (ahW S Z i k t)), x7, x8, x9] ∧ (t = 0 → x4 = some (nV k)) ∧ Same H H' ∧ H' l = some (.lst zs) ∧ LV (EnV H') zs (((List.range t).flatMap fun t => headL i t ++ innerL S Z i k t).filterMap (fitO M S Z i k)) ∧ zs.length ≤ t * 20)
      ⟨_, none, none, none, [], rfl, fun _ => rfl, k1, el, LV.nil, Nat.zero_le _⟩ (fun _ _ _ _ _ => trivial) ?_ ?_
    · rintro t x σ' H0 H2 ht ⟨x4, x7, x8, x9, zs, rfl, h4, k2, el2, lz, lzs⟩ ⟨rfl, hx⟩
      have hx : x = nV (i + t) := by rw [hx]; exact congrArg V.int (by omega)
      subst hx
      have hit : i + t < Z.length := by omega
      refine ⟨fun σ' H' => ∃ (x8 x9 : Option V) (zs : List V), σ' = [some (nV M), some (.ref sa), some (.ref ba), some (nV i), some (nV (kkA k t)), some (.ref l), some (nV (ahW S Z i k t)), some (nV (i + t)), x8, x9] ∧ Same H H' ∧ H' l = some (.lst zs) ∧ LV (EnV H') zs (((List.range t).flatMap fun t => headL i t ++ innerL S Z i k t).filterMap (fitO M S Z i k) ++ (headL i t).filterMap (fitO M S Z i k)) ∧ zs.length ≤ t * 20 + 1, ?_, ?_⟩
      · refine ⟨_, rfl, _, rfl, _, _, rfl, rfl, _, rfl, ?_⟩
        refine ifD (fun c1 => ?_) (fun c1 => ?_)
        · have c1 : (i : Int) < ((i + t : Nat) : Int) := c1
          have ht0 : t ≠ 0 := by omega
          refine ⟨_, rfl, _, _, rfl, rfl, _, rfl, _, _, rfl, rfl, _, rfl, ?_⟩
          refine ifD (fun c2 => ?_) (fun c2 => ?_)
          · have c2 : (M : Int) < (ahW S Z i k t : Int) - 1 := c2
            exact ⟨_, rfl, q H2 l zs k2 nl el2 (by rw [ends_cut (t := t) (by omega) (by omega) (by omega)]; exact lz)⟩
          · have c2 : ¬ (M : Int) < (ahW S Z i k t : Int) - 1 := c2
            have h1 := ahW_mono (S := S) (Z := Z) (i := i) (k := k) (t := 0) t
            rw [Nat.zero_add] at h1
            have hk0 : kkA k t = 0 := if_neg ht0
            have hfit : fitO M S Z i k (i + t, 0) = some ((i + t, 0), ahW S Z i k t - 1) := by
              have e : natW S Z i k (i + t, 0) = ahW S Z i k t - 1 := by
                unfold natW
                rw [if_pos rfl, Nat.add_sub_cancel_left]
              unfold fitO
              rw [e, if_pos (by omega)]
            have hh : (headL i t).filterMap (fitO M S Z i k) = [((i + t, 0), ahW S Z i k t - 1)] := by
              unfold headL
              rw [if_neg ht0, fm_one, hfit]; rfl
            rw [hk0, hh]
            refine ⟨.ref l, rfl, .inl ⟨rfl, _, .inl (.inl el2)⟩, _, rfl, by show 2 ≤ sizeLine; decide, fun p np => ?_⟩
            refine ⟨_, rfl, _, _, rfl, rfl, by show 2 ≤ sizeLine; decide, fun p2 np2 => ?_⟩
            have E := end_app (a := i + t) (b := 0) (w := ahW S Z i k t - 1) (vw := V.int ((ahW S Z i k t : Int) - 1)) k2 nl el2 lz rfl rfl (congrArg V.int (by omega)) np np2
            exact ⟨l, zs, _, rfl, rfl, E.1, szN (by omega), _, _, _, rfl, E.2.1, upd_same, E.2.2, by rw [List.length_append]; exact Nat.succ_le_succ lzs⟩
        · have c1 : ¬ (i : Int) < ((i + t : Nat) : Int) := c1
          have ht0 : t = 0 := by omega
          subst ht0
          rw [h4 rfl]
          exact ⟨_, _, zs, rfl, k2, el2, by show LV _ _ (_ ++ []); rw [List.append_nil]; exact lz, by omega⟩
      · rintro σ' H3 ⟨x8, x9, zs, rfl, k3, el3, lz3, lzs3⟩
        obtain ⟨u, eu, sa2, pa, ws, rfl, e1, e2, pl⟩ := lv.2 (i + t) _ (wz_at hit)
        have hsh : ShapeV H (.ref sa2) S (wz Z (i + t)) := ⟨sa2, pa, ws, rfl, e1, e2, pl⟩
        have hn16 := ok.pl _ (wz_mem hit)
        have h0 := ok.ne _ (wz_mem hit)
        have plen : ws.length = nP S (wz Z (i + t)) := pl.1
        have hkk : kkA k t ≤ nP S (wz Z (i + t)) := by
          unfold kkA
          by_cases c : t = 0
          · subst c
            rw [if_pos rfl]; exact hk
          · rw [if_neg c]; exact Nat.zero_le _
        generalize hkd : kkA k t = kk at hkk
        have en2 : (((nP S (wz Z (i + t)) + 1 : Nat) : Int) - ((kk + 1 : Nat) : Int)).toNat = nP S (wz Z (i + t)) - kk := by omega
        refine ⟨_, rfl, _, _, rfl, rfl, _, rfl, _, rfl, sa, us, _, _, rfl, rfl, SqT.of (k3 _ _ es), atI_nat eu, sa2, _, 1, _, rfl, rfl, SqT.of (k3 _ _ e1), rfl, pa, ws, rfl, .inr (SqT.of (k3 _ _ e2)), _, _, rfl, rfl, ((kk + 1 : Nat) : Int), ((nP S (wz Z (i + t)) + 1 : Nat) : Int), by rw [plen]; rfl, by omega, ?_⟩
        rw [en2]
        refine for_it walk_range (fun s σ' H' => ∃ (x8 x9 : Option V) (zs : List V), σ' = [some (nV M), some (.ref sa), some (.ref ba), some (nV i), some (nV kk), some (.ref l), some (nV (ahW S Z i k t)), some (nV (i + t)), x8, x9] ∧ Same H H' ∧ H' l = some (.lst zs) ∧ LV (EnV H') zs (((List.range t).flatMap fun t => headL i t ++ innerL S Z i k t).filterMap (fitO M S Z i k) ++ (headL i t).filterMap (fitO M S Z i k) ++ ((List.range s).map fun s => (i + t, kk + 1 + s)).filterMap (fitO M S Z i k)) ∧ zs.length ≤ t * 20 + 1 + s)
          ⟨x8, x9, zs, rfl, k3, el3, by show LV _ _ (_ ++ []); rw [List.append_nil]; exact lz3, lzs3⟩ (fun _ _ _ _ _ => trivial) ?_ ?_
        · rintro s y σ' H0 H4 hs ⟨x8, x9, zs, rfl, k4, el4, lz4, lzs4⟩ ⟨rfl, hy⟩
          have hy : y = nV (kk + 1 + s) := by rw [hy]; exact congrArg V.int (by omega)
          subst hy
          have hm : kk + 1 + s ≠ 0 := by omega
          have er : (List.range (s + 1)).map (fun s => (i + t, kk + 1 + s)) = (List.range s).map (fun s => (i + t, kk + 1 + s)) ++ [(i + t, kk + 1 + s)] := by rw [List.range_succ, List.map_append]; rfl
          rw [er, fm_append, fm_one, ← List.append_assoc]
          refine ⟨_, rfl, _, rfl, _, rfl, sa, us, _, _, rfl, rfl, SqT.of (k4 _ _ es), atI_nat eu, _, rfl, _, rfl, .ref sa2, S, wz Z (i + t), kk, kk + 1 + s, eA S (wz Z (i + t)) kk, eA S (wz Z (i + t)) (kk + 1 + s), ?_, ShapeV.mono hsh (fun _ _ e => k4 _ _ e), ok.st, h0, by omega, eA_at (by omega), eA_at (by omega), fun H5 k5 => ?_⟩
          · rw [if_neg (by unfold nP at hs; omega)]; rfl
          rw [← pcW_mid hm]
          have k45 := k4.trans k5
          have el5 := k5 _ _ el4
          have lz5 := lz4.mono fun x r z => EnV.kt z fun _ _ e => k5 _ _ e
          have en : natW S Z i k (i + t, kk + 1 + s) = ahW S Z i k t + pcW S (wz Z (i + t)) kk (kk + 1 + s) := by
            unfold natW
            rw [if_neg hm, Nat.add_sub_cancel_left, hkd]
          generalize pcW S (wz Z (i + t)) kk (kk + 1 + s) = pc at en
          refine ⟨_, _, rfl, rfl, ?_⟩
          refine ⟨_, rfl, _, rfl, _, _, rfl, rfl, _, rfl, ?_⟩
          refine ifD (fun c2 => ?_) (fun c2 => ?_)
          · have c2 : (ahW S Z i k t : Int) + (pc : Int) ≤ (M : Int) := c2
            have hfit : fitO M S Z i k (i + t, kk + 1 + s) = some ((i + t, kk + 1 + s), ahW S Z i k t + pc) := by
              unfold fitO
              rw [en, if_pos (by omega)]
            rw [hfit]
            refine ⟨.ref l, rfl, .inl ⟨rfl, _, .inl (.inl el5)⟩, _, rfl, _, rfl, by show 2 ≤ sizeLine; decide, fun p np => ?_⟩
            refine ⟨_, rfl, by show 2 ≤ sizeLine; decide, fun p2 np2 => ?_⟩
            have E := end_app (a := i + t) (b := kk + 1 + s) (w := ahW S Z i k t + pc) (vw := V.int ((ahW S Z i k t : Int) + (pc : Int))) k45 nl el5 lz5 rfl rfl rfl np np2
            exact ⟨l, zs, _, rfl, rfl, E.1, szN (by omega), _, _, _, rfl, E.2.1, upd_same, E.2.2, by rw [List.length_append]; exact Nat.succ_le_succ lzs4⟩
          · have c2 : ¬ (ahW S Z i k t : Int) + (pc : Int) ≤ (M : Int) := c2
            have hfit : fitO M S Z i k (i + t, kk + 1 + s) = none := by
              unfold fitO
              rw [en, if_neg (by omega)]
            rw [hfit]
            exact ⟨_, _, zs, rfl, k45, el5, by show LV _ _ (_ ++ []); rw [List.append_nil]; exact lz5, by omega⟩
        · rintro σ' H4 ⟨x8, x9, zs, rfl, k4, el4, lz4, lzs4⟩
          refine ⟨_, rfl, _, rfl, _, rfl, sa, us, _, _, rfl, rfl, SqT.of (k4 _ _ es), atI_nat eu, _, rfl, .ref sa2, S, wz Z (i + t), kk, nP S (wz Z (i + t)) + 1, eA S (wz Z (i + t)) kk, eA S (wz Z (i + t)) (nP S (wz Z (i + t)) + 1), ?_, ShapeV.mono hsh (fun _ _ e => k4 _ _ e), ok.st, h0, by omega, eA_at (by omega), eA_at (by omega), fun H5 k5 => ?_⟩
          · rw [if_pos (show nP S (wz Z (i + t)) + 1 = (places S (wz Z (i + t))).length + 1 from rfl)]; rfl
          rw [← pcW_end]
          have eah : ahW S Z i k (t + 1) = ahW S Z i k t + (pcW S (wz Z (i + t)) kk 0 + 1) := by rw [← hkd]; rfl
          rw [eah]
          have hr1 : ((List.range (t + 1)).flatMap fun t => headL i t ++ innerL S Z i k t) = ((List.range t).flatMap fun t => headL i t ++ innerL S Z i k t) ++ (headL i t ++ innerL S Z i k t) := by
            rw [List.range_succ, List.flatMap_append, List.flatMap_cons, List.flatMap_nil, List.append_nil]
          have hin : innerL S Z i k t = (List.range (nP S (wz Z (i + t)) - kk)).map fun s => (i + t, kk + 1 + s) := by
            unfold innerL
            rw [hkd]
          rw [hr1, fm_append, fm_append, hin, ← List.append_assoc]
          refine ⟨_, _, rfl, rfl, _, _, rfl, rfl, ?_⟩
          exact ⟨_, _, _, _, zs, rfl, fun h => absurd h (Nat.succ_ne_zero t), k4.trans k5, k5 _ _ el4, lz4.mono fun x r z => EnV.kt z fun _ _ e => k5 _ _ e, by omega⟩
    · rintro σ' H2 ⟨x4, x7, x8, x9, zs, rfl, _, k2, el2, lz, lzs⟩
      have h1 := ahW_mono (S := S) (Z := Z) (i := i) (k := k) (t := 0) (Z.length - i)
      rw [Nat.zero_add] at h1
      have en : natW S Z i k (Z.length, 0) = ahW S Z i k (Z.length - i) - 1 := by
        unfold natW
        rw [if_pos rfl]
      have hef : endsF M S Z i k = ((List.range (Z.length - i)).flatMap fun t => headL i t ++ innerL S Z i k t).filterMap (fitO M S Z i k) ++ (fitO M S Z i k (Z.length, 0)).toList := by
        unfold endsF afterL
        rw [fm_append, fm_one]
      refine ⟨_, rfl, _, _, rfl, rfl, _, rfl, _, _, rfl, rfl, _, rfl, ?_⟩
      refine ifD (fun c2 => ?_) (fun c2 => ?_)
      · have c2 : (ahW S Z i k (Z.length - i) : Int) - 1 ≤ (M : Int) := c2
        have hfit : fitO M S Z i k (Z.length, 0) = some ((Z.length, 0), ahW S Z i k (Z.length - i) - 1) := by
          unfold fitO
          rw [en, if_pos (by omega)]
        refine ⟨.ref l, rfl, .inl ⟨rfl, _, .inl (.inl el2)⟩, _, rfl, sa, us, rfl, .inr (SqT.of (k2 _ _ es)), by show 2 ≤ sizeLine; decide, fun p np => ?_⟩
        refine ⟨_, rfl, _, _, rfl, rfl, by show 2 ≤ sizeLine; decide, fun p2 np2 => ?_⟩
        have E := end_app (a := Z.length) (b := 0) (w := ahW S Z i k (Z.length - i) - 1) (va := V.int (us.length : Nat)) (vb := V.int 0) (vw := V.int ((ahW S Z i k (Z.length - i) : Int) - 1)) k2 nl el2 lz (by rw [lus]; rfl) rfl (congrArg V.int (by omega)) np np2
        refine ⟨l, zs, _, rfl, rfl, E.1, szN (by omega), _, rfl, ?_⟩
        exact q _ l _ E.2.1 nl upd_same (by rw [hef, hfit]; exact E.2.2)
      · have c2 : ¬ (ahW S Z i k (Z.length - i) : Int) - 1 ≤ (M : Int) := c2
        have hfit : fitO M S Z i k (Z.length, 0) = none := by
          unfold fitO
          rw [en, if_neg (by omega)]
        exact ⟨_, rfl, q H2 l zs k2 nl el2 (by rw [hef, hfit]; show LV _ _ (_ ++ []); rw [List.append_nil]; exact lz)⟩
end
end Vf

set_option Elab.async false
set_option linter.all false
set_option maxRecDepth 100000
set_option maxHeartbeats 4000000
namespace Vf
open PySem PySem.Spec PyProof.Rows L2 TL
def prA (S : Sty) (z : List Nat) (m : Nat) : Nat := ((places S z).getD (m - 1) (0, 0)).2
def costQ (M L : Nat) (S : Sty) (Z : List (List Nat)) (k : Nat) (y : Nat × Nat) (wd : Nat) : Nat :=
  if y.1 = Z.length then 0 else (M - wd) * (M - wd) + (if 0 < y.2 then prA S (wz Z y.1) y.2 + (if 0 < k then L else 0) else 0)
def linesF (M L : Nat) (S : Sty) (Z : List (List Nat)) (i k : Nat) : List ((Nat × Nat) × Nat) := (endsF M S Z i k).map fun y => (y.1, costQ M L S Z k y.1 y.2)
theorem after_mem {S : Sty} {Z : List (List Nat)} {i k : Nat} (hi : i < Z.length) {y : Nat × Nat} (h : y ∈ afterL S Z i k) : y = (Z.length, 0) ∨ (y.1 < Z.length ∧ y.2 ≤ nP S (wz Z y.1)) := by
  rcases List.mem_append.mp h with h | h
  · obtain ⟨t, ht, h⟩ := List.mem_flatMap.mp h
    have ht := List.mem_range.mp ht
    refine .inr ?_
    rcases List.mem_append.mp h with h | h
    · unfold headL at h
      split at h
      · cases h
      · rw [List.mem_singleton.mp h]
        exact ⟨by show i + t < _; omega, Nat.zero_le _⟩
    · unfold innerL at h
      obtain ⟨s, hs, rfl⟩ := List.mem_map.mp h
      have hs := List.mem_range.mp hs
      exact ⟨by show i + t < _; omega, by show kkA k t + 1 + s ≤ nP S (wz Z (i + t)); omega⟩
  · exact .inl (List.mem_singleton.mp h)
theorem ends_mem {M : Nat} {S : Sty} {Z : List (List Nat)} {i k : Nat} {y : (Nat × Nat) × Nat} (h : y ∈ endsF M S Z i k) : y.1 ∈ afterL S Z i k ∧ y.2 ≤ M := by
  obtain ⟨x, hx, e⟩ := List.mem_filterMap.mp h
  unfold fitO at e
  split at e
  · next c =>
    rw [← Option.some.inj e]; exact ⟨hx, c⟩
  · cases e
section
variable {P : Program} {w : World} {K : PySem.W.Frag} {mg : Str → Option Value} {base : Heap}
def spLCost : Sp := fun vs H Q _ => ∃ (sa ba ea : Addr) (us : List V) (S : Sty) (Z : List (List Nat)) (M L i k j m wd : Nat), vs = [nV M, nV L, .ref sa, .ref ba, .ref ea, nV wd] ∧ H sa = some (.tup us) ∧ LV (ShV S H) us Z ∧ H ba = some (.tup [nV i, nV k]) ∧ H ea = some (.tup [nV j, nV m]) ∧ ((j, m) = (Z.length, 0) ∨ (j < Z.length ∧ m ≤ nP S (wz Z j))) ∧ wd ≤ M ∧ M ≤ 1000000 ∧
  ∀ H', Same H H' → Q (nV (costQ M L S Z k (j, m) wd)) H'
theorem ok_lcost (T : Txt K mg) : FnOk P w K mg base CX0 1 T.a_cost T.d_cost ["measure", "ladder", "shapes", "begin", "end", "width"] spLCost := by
  refine T.D_cost.F.ok sc_cost (fun vs H Q E h => ?_) (fun cdv A outer s H vs Q E hr h => ?_)
  · obtain ⟨_, _, _, _, _, _, _, _, _, _, _, _, _, rfl, _⟩ := h
    rfl
  · obtain ⟨sa, ba, ea, us, S, Z, M, L, i, k, j, m, wd, rfl, es, lv, eb, ee, hj, hw, hM, q⟩ := h
    have lus := lv.1
    have q := q H (Same.refl H)
    unfold costQ at q
    refine ⟨_, (pss_cons (ps_if (pt_cmpR op_eq (pe_ix ix_tup (pv 4) pe_int (fun _ _ => rfl)) (pe_callB call_len_seq (by rfl) T.n_len PySem.boot_len (pa_cons (pv 2) pa_nil)) (nomark _)) (pss_one (ps_ret pe_int)) pss_nil)
      (pss_cons (ps_set (i := 6) sc_cost.nd rfl (.inl rfl) (pe_op op_mul (pe_op op_sub (pv 0) (pv 5)) (pe_op op_sub (pv 0) (pv 5))))
      (pss_cons (ps_asg (pv 4) (pg_tup (by rfl) (pgs_cons (pg_name (i := 7) sc_cost.nd rfl (.inl rfl)) (pgs_cons (pg_name (i := 8) sc_cost.nd rfl (.inl rfl)) pgs_nil))))
      (pss_cons (ps_if (pt_cmpR op_gt (pv 8) pe_int (nomark _)) (pss_cons (ps_aug (i := 6) sc_cost.nd rfl (.inl rfl) (pe_ix ix_tup (pe_ix ix_tup (pe_ix ix_tup (pe_ix ix_tup (pv 2) (pv 7) (fun _ _ => rfl)) pe_int (fun _ _ => rfl)) (pe_op op_sub (pv 8) pe_int) (fun _ _ => rfl)) pe_int (fun _ _ => rfl)) ip_add)
      (pss_one (ps_if (pt_cmpR op_gt (pe_ix ix_tup (pv 3) pe_int (fun _ _ => rfl)) pe_int (nomark _)) (pss_one (ps_aug (i := 6) sc_cost.nd rfl (.inl rfl) (pv 1) ip_add)) pss_nil))) pss_nil)
      (pss_one (ps_ret (pv 6))))))), ?_⟩
    refine ⟨_, rfl, ea, _, 0, _, rfl, rfl, SqT.of ee, rfl, _, rfl, sa, us, rfl, .inr (SqT.of es), rfl, _, rfl, ?_⟩
    rw [lus]
    refine ifD (fun c1 => ?_) (fun c1 => ?_)
    · have c1 : j = Z.length := Int.ofNat.inj (V.int.inj c1)
      rw [if_pos c1] at q; exact q
    · have c1 : ¬ j = Z.length := fun x => c1 (by rw [x]; rfl)
      rw [if_neg c1] at q
      obtain ⟨hjl, hm⟩ := hj.resolve_left fun x => c1 (congrArg Prod.fst x)
      have eX : (M : Int) - (wd : Int) = ((M - wd : Nat) : Int) := by omega
      have e0 : ((M : Int) - (wd : Int)) * ((M : Int) - (wd : Int)) = (((M - wd) * (M - wd) : Nat) : Int) := by rw [eX, Int.natCast_mul]
      generalize (M - wd) * (M - wd) = mm at q e0
      refine ⟨_, rfl, _, rfl, _, _, rfl, rfl, _, rfl, _, rfl, _, _, rfl, rfl, _, _, rfl, rfl, .inl (by omega), ?_⟩
      refine ⟨_, rfl, ea, _, rfl, SqT.of ee, rfl, _, _, rfl, _, _, rfl, rfl, ?_⟩
      refine ⟨_, rfl, _, _, rfl, rfl, _, rfl, ?_⟩
      refine ifD (fun c2 => ?_) (fun c2 => ?_)
      · have c2 : (0 : Int) < (m : Int) := c2
        have c2 : 0 < m := by omega
        rw [if_pos c2] at q
        obtain ⟨u, eu, sa2, pa, ws, rfl, e1, e2, pl⟩ := lv.2 j _ (wz_at hjl)
        obtain ⟨rr, gm⟩ : ∃ rr, (places S (wz Z j))[m - 1]? = some rr := ⟨_, List.getElem?_eq_getElem (by unfold nP at hm; omega)⟩
        obtain ⟨x, ex, b, rfl, eb2⟩ := pl.2 _ _ gm
        have ep : rr.2 = prA S (wz Z j) m := by
          unfold prA
          rw [List.getD_eq_getElem?_getD, gm]; rfl
        rw [ep] at eb2
        have em : (m : Int) - 1 = ((m - 1 : Nat) : Int) := by omega
        generalize prA S (wz Z j) m = pr at q eb2
        refine ⟨_, rfl, _, rfl, _, rfl, sa, us, _, _, rfl, rfl, SqT.of es, atI_nat eu, sa2, _, 1, _, rfl, rfl, SqT.of e1, rfl, _, rfl, _, _, rfl, rfl, pa, ws, _, _, rfl, rfl, SqT.of e2, by rw [em]; exact atI_nat ex, b, _, 2, _, rfl, rfl, SqT.of eb2, rfl, _, _, rfl, rfl, ?_⟩
        refine ⟨_, rfl, ba, _, 1, _, rfl, rfl, SqT.of eb, rfl, _, _, rfl, rfl, _, rfl, ?_⟩
        refine ifD (fun c3 => ?_) (fun c3 => ?_)
        · have c3 : (0 : Int) < (k : Int) := c3
          rw [if_pos (show 0 < k by omega)] at q
          refine ⟨_, rfl, _, rfl, _, _, rfl, rfl, ?_⟩
          refine ⟨_, rfl, ?_⟩
          exact Eq.mp (congrArg (fun v => Q v H) (congrArg V.int (by dsimp only; rw [e0]; show ((mm + (pr + L) : Nat) : Int) = _; omega))) q
        · have c3 : ¬ (0 : Int) < (k : Int) := c3
          rw [if_neg (show ¬ 0 < k by omega)] at q
          refine ⟨_, rfl, ?_⟩
          exact Eq.mp (congrArg (fun v => Q v H) (congrArg V.int (by dsimp only; rw [e0]; show ((mm + (pr + 0) : Nat) : Int) = _; omega))) q
      · have c2 : ¬ (0 : Int) < (m : Int) := c2
        rw [if_neg (show ¬ 0 < m by omega)] at q
        refine ⟨_, rfl, ?_⟩
        exact Eq.mp (congrArg (fun v => Q v H) (congrArg V.int (by rw [e0]; show ((mm + 0 : Nat) : Int) = _; omega))) q
end
end Vf

set_option Elab.async false
set_option linter.all false
set_option maxRecDepth 100000
set_option maxHeartbeats 4000000
namespace Vf
open PySem PySem.Spec PyProof.Rows L2 TL
theorem after_len {S : Sty} {Z : List (List Nat)} {i k : Nat} (ok : WdsOk S Z) : (afterL S Z i k).length ≤ 40 * 20 + 1 := by
  unfold afterL
  rw [List.length_append]
  have h : ∀ (l : List Nat), (∀ t ∈ l, i + t < Z.length) → (l.flatMap fun t => headL i t ++ innerL S Z i k t).length ≤ l.length * 20 := fun l => by
    induction l with
    | nil => intro _; exact Nat.zero_le _
    | cons a r ih =>
      intro hl
      rw [List.flatMap_cons, List.length_append, List.length_cons, Nat.succ_mul]
      have h1 := ih fun t ht => hl t (List.mem_cons_of_mem _ ht)
      have h2 := ok.pl _ (wz_mem (hl a List.mem_cons_self))
      have h3 : (headL i a ++ innerL S Z i k a).length ≤ 20 := by
        rw [List.length_append]
        unfold headL innerL
        rw [List.length_map, List.length_range]
        split
        · show 0 + _ ≤ _; omega
        · show 1 + _ ≤ _; omega
      omega
  have h2 := h (List.range (Z.length - i)) fun t ht => by have := List.mem_range.mp ht; omega
  rw [List.length_range] at h2
  have := ok.ln
  show _ + 1 ≤ _
  omega
theorem ends_flen {M : Nat} {S : Sty} {Z : List (List Nat)} {i k : Nat} (ok : WdsOk S Z) : (endsF M S Z i k).length ≤ 40 * 20 + 1 := Nat.le_trans (List.length_filterMap_le _ _) (after_len ok)
section
variable {P : Program} {w : World} {K : PySem.W.Frag} {mg : Str → Option Value} {base : Heap}
def spLines : Sp := fun vs H Q _ => ∃ (sa ba : Addr) (us : List V) (S : Sty) (Z : List (List Nat)) (M L i k : Nat), vs = [nV M, nV L, .ref sa, .ref ba] ∧ H sa = some (.tup us) ∧ LV (ShV S H) us Z ∧ WdsOk S Z ∧ M ≤ 1000000 ∧ H ba = some (.tup [nV i, nV k]) ∧ i < Z.length ∧ k ≤ nP S (wz Z i) ∧
  ∀ H' l zs, Same H H' → H l = none → H' l = some (.lst zs) → LV (EnV H') zs (linesF M L S Z i k) → Q (.ref l) H'
theorem ok_lines (T : Txt K mg) : FnOk P w K mg base CX0 3 T.a_lines_from T.d_lines_from ["measure", "ladder", "shapes", "begin"] spLines := by
  have G_ends_from : FnOk P w K mg base CX0 2 T.a_ends_from T.d_ends_from ["measure", "shapes", "begin"] spEndsFrom := ok_ends_from T
  have G_cost : FnOk P w K mg base CX0 1 T.a_cost T.d_cost ["measure", "ladder", "shapes", "begin", "end", "width"] spLCost := ok_lcost T
  refine T.D_lines_from.F.ok sc_lines_from (fun vs H Q E h => ?_) (fun cdv A outer s H vs Q E hr h => ?_)
  · obtain ⟨_, _, _, _, _, _, _, _, _, rfl, _⟩ := h
    rfl
  · obtain ⟨sa, ba, us, S, Z, M, L, i, k, rfl, es, lv, ok, hM, eb, hi, hk, q⟩ := h
    refine ⟨_, (pss_cons (ps_set (i := 4) sc_lines_from.nd rfl (.inl rfl) (pe_call G_ends_from (hr.mono (by decide)) (by rfl) T.D_ends_from.G T.D_ends_from.F.kp T.D_ends_from.B .nil pass0 (pa_cons (pv 0) (pa_cons (pv 2) (pa_cons (pv 3) pa_nil)))))
      (pss_one (ps_ret (pe_lc (own := [("end", 5), ("width", 6)]) (g := (gTup K 2 (gCons (gName 5) (gCons (gName 6) gNil)))) (tt := tYes) rfl sc_lines_from.nd (pi_list (pv 4)) (blkOk_by (own := [("end", 5), ("width", 6)]) (N := ["measure", "ladder", "shapes", "begin", "ends", "end", "width"]) (sc := (defScope s_lines_from)) (by decide +kernel)) (fun _ _ _ _ _ => (pg_tup (by rfl) (pgs_cons (pg_name (i := 5) sc_lines_from.nd rfl (.inl rfl)) (pgs_cons (pg_name (i := 6) sc_lines_from.nd rfl (.inl rfl)) pgs_nil)))) (fun _ _ _ _ _ => pts_nil) (fun _ _ _ _ _ => (pe_tup (pa_cons (pv 5) (pa_cons (pe_call G_cost (hr.mono (by decide)) (by rfl) T.D_cost.G T.D_cost.F.kp T.D_cost.B .nil pass0 (pa_cons (pv 0) (pa_cons (pv 1) (pa_cons (pv 2) (pa_cons (pv 3) (pa_cons (pv 5) (pa_cons (pv 6) pa_nil))))))) pa_nil)))))))), ?_⟩
    refine ⟨_, rfl, _, rfl, _, rfl, sa, ba, us, S, Z, M, i, k, rfl, es, lv, ok, eb, hi, hk, fun H1 l zs k1 nl el lz => ?_⟩
    refine ⟨_, rfl, l, rfl, ⟨_, SqL.of el⟩, fun D nD => ?_⟩
    have hmem : ∀ y ∈ endsF M S Z i k, ((y.1 = (Z.length, 0)) ∨ (y.1.1 < Z.length ∧ y.1.2 ≤ nP S (wz Z y.1.1))) ∧ y.2 ≤ M := fun y hy => ⟨after_mem hi (ends_mem hy).1, (ends_mem hy).2⟩
    have hlen := ends_flen (M := M) (i := i) (k := k) ok
    have hlf : linesF M L S Z i k = (endsF M S Z i k).map fun y => (y.1, costQ M L S Z k y.1 y.2) := rfl
    generalize endsF M S Z i k = ef at lz hmem hlen hlf
    refine lc_it (walk_list (K := K) (a := l) (xs := zs)) (fun t H' => ∃ ws, H' D = some (.lst ws) ∧ LV (EnV H') ws ((ef.take t).map fun y => (y.1, costQ M L S Z k y.1 y.2)) ∧ Same H1 H') ⟨[], upd_same, LV.nil, same_upd (Same.refl H1) nD⟩ ?_ ?_ ?_
    · rintro t H' _ ⟨_, _, _, kk⟩
      exact SqL.of (kk _ _ el)
    · rintro t x Ha H2 ht ⟨ws, ed, lw, k2⟩ ⟨rfl, hx⟩
      obtain ⟨y, ey, b, b2, rfl, eb1, eb2⟩ := lz.at hx
      have ⟨hy1, hy2⟩ := hmem y (List.mem_of_getElem? ey)
      have hty : t < ef.length := (List.getElem?_eq_some_iff.mp ey).1
      have k12 := k1.trans k2
      have lwl := lw.1
      rw [List.length_map, List.length_take] at lwl
      refine ⟨b, _, rfl, SqT.of (k2 _ _ eb1), rfl, _, _, rfl, _, _, rfl, rfl, rfl, ?_⟩
      refine ⟨_, rfl, _, rfl, _, rfl, _, rfl, _, rfl, _, rfl, _, rfl, sa, ba, b2, us, S, Z, M, L, i, k, y.1.1, y.1.2, y.2, rfl, k12 _ _ es, lv.mono fun _ _ z => z.kt fun _ _ e => k12 _ _ e, k12 _ _ eb, k2 _ _ eb2, hy1, hy2, hM, fun H3 k3 => ?_⟩
      refine ⟨by show 2 ≤ sizeLine; decide, fun p np => ?_⟩
      have k4 := same_upd (o := .tup [.ref b2, nV (costQ M L S Z k (y.1.1, y.1.2) y.2)]) k3 np
      have ep : upd H3 p (.tup [.ref b2, nV (costQ M L S Z k (y.1.1, y.1.2) y.2)]) p = some (.tup [.ref b2, nV (costQ M L S Z k y.1 y.2)]) := upd_same
      generalize upd H3 p (.tup [.ref b2, nV (costQ M L S Z k (y.1.1, y.1.2) y.2)]) = H4 at k4 ep
      have ed4 := k4 _ _ ed
      have kt := kt_mut (zs := ws ++ [V.ref p]) ed4
      refine ⟨ws, ed4, szN (by omega), ws ++ [.ref p], upd_same, ?_, same_mut (k2.trans k4) nD⟩
      rw [show ef.take (t + 1) = ef.take t ++ [y] by rw [List.take_succ, ey]; rfl, List.map_append]
      exact LV.snoc (lw.mono fun _ _ z => (EnV.kt z fun _ _ e => k4 _ _ e).kt kt) ⟨p, b2, rfl, kt _ _ ep, kt _ _ (k4 _ _ (k2 _ _ eb2))⟩
    · rintro H2 ⟨ws, ed, lw, k2⟩
      rw [lz.1, List.take_length] at lw
      exact q H2 D ws (k1.trans k2) (Same.free k1 nD) ed (by rw [hlf]; exact lw)
theorem row_len (S : Sty) (Z : List (List Nat)) (i : Nat) : (rowL S Z i).length = nP S (wz Z i) + 1 := by
  unfold rowL; rw [List.length_map, List.length_range]
theorem pos_len {S : Sty} {Z : List (List Nat)} (ok : WdsOk S Z) : ∀ n, n ≤ Z.length → ((List.range n).flatMap (rowL S Z)).length ≤ n * 17
  | 0, _ => Nat.zero_le _
  | n + 1, h => by
    rw [List.range_succ, List.flatMap_append, List.flatMap_cons, List.flatMap_nil, List.append_nil, List.length_append, row_len]
    have := pos_len ok n (by omega)
    have := ok.pl _ (wz_mem (show n < Z.length by omega))
    omega
def spPositions : Sp := fun vs H Q _ => ∃ (sa : Addr) (us : List V) (S : Sty) (Z : List (List Nat)), vs = [.ref sa] ∧ H sa = some (.tup us) ∧ LV (ShV S H) us Z ∧ WdsOk S Z ∧
  ∀ H' p vs, Same H H' → H p = none → H' p = some (.tup vs) → LV (FgV H') vs (posL S Z) → Q (.ref p) H'
theorem ok_positions (T : Txt K mg) : FnOk P w K mg base CX0 1 T.a_positions T.d_positions ["shapes"] spPositions := by
  refine T.D_positions.F.ok sc_positions (fun vs H Q E h => ?_) (fun cdv A outer s H vs Q E hr h => ?_)
  · obtain ⟨_, _, _, _, rfl, _⟩ := h
    rfl
  · obtain ⟨sa, us, S, Z, rfl, es, lv, ok, q⟩ := h
    have lus := lv.1
    have l40 := ok.ln
    refine ⟨_, (pss_cons (ps_setLc2 (i := 1) (own := [("at", 2), ("_", 3), ("partings", 4), ("parting", 5)]) (vs1 := [5]) (g := (gTup K 2 (gCons (gName 2) (gCons (gTup K 2 (gCons (gName 3) (gCons (gName 4) gNil))) gNil)))) (g1 := (gName 5)) (tt := tYes) (tt1 := tYes) (wi1 := iRng1 _) rfl sc_positions.nd rfl rfl (sw_true rfl rfl rfl (by decide +kernel)) (pi_enumT (by rfl) T.n_enumerate (pa_cons (pv 0) pa_nil)) (blkOk_by (own := [("at", 2), ("_", 3), ("partings", 4), ("parting", 5)]) (N := ["shapes", "found", "at", "_", "partings", "parting"]) (sc := (defScope s_positions)) (by decide +kernel)) (by decide) (fun _ _ _ _ _ => (pg_tup (by rfl) (pgs_cons (pg_name (i := 2) sc_positions.nd rfl (.inl rfl)) (pgs_cons (pg_tup (by rfl) (pgs_cons (pg_name (i := 3) sc_positions.nd rfl (.inl rfl)) (pgs_cons (pg_name (i := 4) sc_positions.nd rfl (.inl rfl)) pgs_nil))) pgs_nil)))) (fun _ _ _ _ _ => pts_nil) (fun _ _ _ _ _ => (pi_range1 (by rfl) T.n_range (pa_cons (pe_op op_add (pe_callB (show CallR _ _ (rLenK K) from call_len_seq) (by rfl) T.n_len PySem.boot_len (pa_cons (pv 4) pa_nil)) pe_int) pa_nil))) (fun _ _ _ _ _ => (pg_name (i := 5) sc_positions.nd rfl (.inl rfl))) (fun _ _ _ _ _ => pts_nil) (fun _ _ _ _ _ => (pe_tup (pa_cons (pv 2) (pa_cons (pv 5) pa_nil)))))
      (pss_one (ps_ret (pe_callTy call_tuple_of (by rfl) T.n_tuple (by decide +kernel) (pa_cons (pe_op op_cat (pv 1) (pe_lst (pa_cons (pe_tup (pa_cons (pe_callB call_len_seq (by rfl) T.n_len PySem.boot_len (pa_cons (pv 0) pa_nil)) (pa_cons pe_int pa_nil))) pa_nil))) pa_nil))))), ?_⟩
    refine ⟨_, rfl, sa, us, rfl, SqT.of es, fun D nD => ?_⟩
    refine lc2_out (walk_enumT (K := K) (a := sa) (xs := us)) (fun i H' => ∃ zs, H' D = some (.lst zs) ∧ LV (FgV H') zs ((List.range i).flatMap (rowL S Z)) ∧ Same H H') ⟨[], upd_same, LV.nil, same_upd (Same.refl H) nD⟩ ?_ ?_ ?_
    · rintro i H' _ ⟨_, _, _, k⟩
      exact SqT.of (k _ _ es)
    · rintro i x H1 H2 hi ⟨zs, ed, lz, k1⟩ ⟨T', x1, y1, rfl, hT, rfl, hx1, hy1⟩
      have hx1 := Option.some.inj hx1
      subst hx1
      have hiZ : i < Z.length := by omega
      obtain ⟨z, ez, sa2, pa, ws, rfl, e1, e2, pl⟩ := lv.at hy1
      have hz : z = wz Z i := by
        rw [wz_at hiZ] at ez
        exact (Option.some.inj ez).symm
      subst hz
      have hn16 := ok.pl _ (wz_mem hiZ)
      have plen : ws.length = nP S (wz Z i) := pl.1
      have nDT : D ≠ T' := ne_of_none ed hT
      have k2 := same_upd (o := .tup [.int (i : Nat), .ref sa2]) (Same.refl H1) hT
      have eT : upd H1 T' (.tup [.int (i : Nat), .ref sa2]) T' = some (.tup [.int (i : Nat), .ref sa2]) := upd_same
      generalize upd H1 T' (.tup [.int (i : Nat), .ref sa2]) = H2 at k2 eT
      have k12 := k1.trans k2
      refine ⟨T', _, rfl, SqT.of eT, rfl, _, _, rfl, _, _, rfl, sa2, _, rfl, SqT.of (k12 _ _ e1), rfl, _, _, rfl, _, _, rfl, rfl, rfl, rfl, ?_⟩
      have lzl := lz.1
      have pl17 := pos_len ok i (by omega)
      have pl680 : i * 17 ≤ 40 * 17 := Nat.mul_le_mul_right _ (by omega)
      refine ⟨_, rfl, pa, ws, rfl, .inr (SqT.of (k12 _ _ e2)), _, _, rfl, rfl, ((nP S (wz Z i) + 1 : Nat) : Int), by rw [plen]; rfl, by omega, by omega, ?_⟩
      rw [Int.toNat_natCast]
      have er : (List.range (i + 1)).flatMap (rowL S Z) = (List.range i).flatMap (rowL S Z) ++ rowL S Z i := by
        rw [List.range_succ, List.flatMap_append, List.flatMap_cons, List.flatMap_nil, List.append_nil]
      rw [er]
      refine lc2_in walk_range (fun u H' => ∃ zs2, H' D = some (.lst zs2) ∧ LV (FgV H') zs2 ((List.range i).flatMap (rowL S Z) ++ (rowL S Z i).take u) ∧ Same H H') ⟨zs, k2 _ _ ed, by rw [List.take_zero, List.append_nil]; exact lz.mono fun _ _ z => z.same k2, k12⟩ (fun _ _ _ _ => trivial) ?_ ?_
      · rintro u y H4 H5 hu ⟨zs2, ed4, lz4, k4⟩ ⟨rfl, hy⟩
        have hy : y = nV u := by rw [hy]; exact int0 u
        subst hy
        refine ⟨rfl, _, rfl, _, rfl, by show 2 ≤ sizeLine; decide, fun p np => ?_⟩
        have k5 := same_upd (o := .tup [V.int (i : Nat), nV u]) (Same.refl H5) np
        have ep : upd H5 p (.tup [V.int (i : Nat), nV u]) p = some (.tup [nV i, nV u]) := upd_same
        generalize upd H5 p (.tup [V.int (i : Nat), nV u]) = H6 at k5 ep
        have ed6 := k5 _ _ ed4
        have kt := kt_mut (zs := zs2 ++ [V.ref p]) ed6
        have ll := lz4.1
        rw [List.length_append, List.length_take, row_len] at ll
        refine ⟨zs2, ed6, szN (by omega), zs2 ++ [.ref p], upd_same, ?_, same_mut (k4.trans k5) nD⟩
        have e : (rowL S Z i).take (u + 1) = (rowL S Z i).take u ++ [(i, u)] := by
          rw [List.take_succ]
          unfold rowL
          rw [List.getElem?_map, List.getElem?_range hu]; rfl
        rw [e, ← List.append_assoc]
        exact LV.snoc (lz4.mono fun x r z => (z.same k5).kt kt) ⟨p, rfl, kt _ _ ep⟩
      · rintro H4 ⟨zs2, ed4, lz4, k4⟩
        rw [List.take_of_length_le (l := rowL S Z i) (by rw [row_len]; exact Nat.le_refl _)] at lz4
        exact ⟨zs2, ed4, lz4, k4⟩
    · rintro H1 ⟨zs, ed, lz, k1⟩
      rw [lus] at lz
      have lzl := lz.1
      have pl17 := pos_len ok Z.length (Nat.le_refl _)
      have pl680 : Z.length * 17 ≤ 40 * 17 := Nat.mul_le_mul_right _ (by omega)
      refine ⟨_, rfl, _, rfl, sa, us, rfl, .inr (SqT.of (k1 _ _ es)), by show 2 ≤ sizeLine; decide, fun p np => ?_⟩
      have k2 := same_upd (o := .tup [V.int (us.length : Nat), V.int 0]) (Same.refl H1) np
      have ep : upd H1 p (.tup [V.int (us.length : Nat), V.int 0]) p = some (.tup [nV Z.length, nV 0]) := by rw [upd_same, lus]; rfl
      generalize upd H1 p (.tup [V.int (us.length : Nat), V.int 0]) = H2 at k2 ep
      refine ⟨by show 1 ≤ sizeLine; decide, fun p2 np2 => ?_⟩
      have k3 := same_upd (o := .lst [V.ref p]) (Same.refl H2) np2
      have ep2 : upd H2 p2 (.lst [V.ref p]) p2 = some (.lst [V.ref p]) := upd_same
      generalize upd H2 p2 (.lst [V.ref p]) = H3 at k3 ep2
      have k23 := k2.trans k3
      refine ⟨D, p2, zs, [.ref p], rfl, rfl, k23 _ _ ed, ep2, by show _ + 1 ≤ _; exact Nat.le_of_lt (szN (by omega)), fun p3 np3 => ?_⟩
      have k4 := same_upd (o := .lst (zs ++ [V.ref p])) (Same.refl H3) np3
      have ep3 : upd H3 p3 (.lst (zs ++ [V.ref p])) p3 = some (.lst (zs ++ [V.ref p])) := upd_same
      generalize upd H3 p3 (.lst (zs ++ [V.ref p])) = H4 at k4 ep3
      refine ⟨p3, _, rfl, .inl ⟨SqL.of ep3, fun t nt => ?_⟩⟩
      have k5 := same_upd (o := .tup (zs ++ [V.ref p])) (Same.refl H4) nt
      have k15 := (k23.trans k4).trans k5
      refine q _ t _ (k1.trans k15) (Same.free (k1.trans (k23.trans k4)) nt) upd_same ?_
      exact LV.snoc (lz.mono fun _ _ z => z.same k15) ⟨p, rfl, ((k3.trans k4).trans k5) _ _ ep⟩
end
end Vf

set_option Elab.async false
set_option linter.all false
set_option maxRecDepth 100000
set_option maxHeartbeats 4000000
namespace Vf
open PySem PySem.Spec PyProof.Rows L2 TL
theorem idxOf_at {ps : List (Nat × Nat)} (inj : Inj ps) {b : Nat} {x : Nat × Nat} (h : ps[b]? = some x) : ps.idxOf x = b := by
  have m : x ∈ ps := List.mem_of_getElem? h
  have l : ps.idxOf x < ps.length := List.idxOf_lt_length_iff.mpr m
  refine inj _ _ x ?_ h
  rw [List.getElem?_eq_getElem l, List.getElem_idxOf]
def LtP (a b : Nat × Nat) : Prop := a.1 < b.1 ∨ (a.1 = b.1 ∧ a.2 < b.2)
theorem pos_asc (S : Sty) (Z : List (List Nat)) : (posL S Z).Pairwise LtP := by
  unfold posL
  rw [List.pairwise_append]
  refine ⟨?_, List.pairwise_singleton _ _, fun a ha b hb => ?_⟩
  · rw [List.pairwise_flatMap]
    refine ⟨fun i _ => ?_, List.pairwise_lt_range.imp fun {i j} h x hx y hy => ?_⟩
    · unfold rowL
      rw [List.pairwise_map]
      exact List.pairwise_lt_range.imp fun h => .inr ⟨rfl, h⟩
    · unfold rowL at hx hy
      obtain ⟨u, _, rfl⟩ := List.mem_map.mp hx
      obtain ⟨v, _, rfl⟩ := List.mem_map.mp hy
      exact .inl h
  · rw [List.mem_singleton.mp hb]
    obtain ⟨i, hi, hx⟩ := List.mem_flatMap.mp ha
    unfold rowL at hx
    obtain ⟨u, _, rfl⟩ := List.mem_map.mp hx
    exact .inl (List.mem_range.mp hi)
theorem pos_inj (S : Sty) (Z : List (List Nat)) : Inj (posL S Z) := by
  intro i j x hi hj
  obtain ⟨li, ei⟩ := List.getElem?_eq_some_iff.mp hi
  obtain ⟨lj, ej⟩ := List.getElem?_eq_some_iff.mp hj
  have pw := List.pairwise_iff_getElem.mp (pos_asc S Z)
  rcases Nat.lt_trichotomy i j with c | c | c
  · have h : LtP _ _ := pw i j li lj c
    rw [ei, ej] at h
    rcases h with h | h <;> omega
  · exact c
  · have h : LtP _ _ := pw j i lj li c
    rw [ei, ej] at h
    rcases h with h | h <;> omega
theorem pos_has {S : Sty} {Z : List (List Nat)} {y : Nat × Nat} (h : y = (Z.length, 0) ∨ (y.1 < Z.length ∧ y.2 ≤ nP S (wz Z y.1))) : ∃ b : Nat, (posL S Z)[b]? = some y := by
  have m : y ∈ posL S Z := by
    unfold posL
    rcases h with h | ⟨h1, h2⟩
    · exact List.mem_append_right _ (List.mem_singleton.mpr h)
    · refine List.mem_append_left _ (List.mem_flatMap.mpr ⟨y.1, List.mem_range.mpr h1, ?_⟩)
      unfold rowL
      exact List.mem_map.mpr ⟨y.2, List.mem_range.mpr (by omega), rfl⟩
  obtain ⟨i, hi, e⟩ := List.mem_iff_getElem.mp m
  exact ⟨i, by rw [List.getElem?_eq_getElem hi, e]⟩
theorem posL_len {S : Sty} {Z : List (List Nat)} (ok : WdsOk S Z) : (posL S Z).length ≤ 681 := by
  unfold posL
  rw [List.length_append]
  have := pos_len ok Z.length (Nat.le_refl _)
  have := ok.ln
  show _ + 1 ≤ _
  omega
theorem pos_body {S : Sty} {Z : List (List Nat)} {a : Nat} {x : Nat × Nat} (h : (posL S Z)[a]? = some x) (ha : a + 1 < (posL S Z).length) : x.1 < Z.length ∧ x.2 ≤ nP S (wz Z x.1) := by
  unfold posL at h ha
  rw [List.length_append] at ha
  rw [List.getElem?_append_left (by show a < _; have : ([(Z.length, 0)] : List (Nat × Nat)).length = 1 := rfl; omega)] at h
  obtain ⟨i, hi, hx⟩ := List.mem_flatMap.mp (List.mem_of_getElem? h)
  unfold rowL at hx
  obtain ⟨u, hu, rfl⟩ := List.mem_map.mp hx
  exact ⟨List.mem_range.mp hi, by show u ≤ nP S (wz Z i); have := List.mem_range.mp hu; omega⟩
theorem cut_lastQ (xs : List V) : cutV xs none (some (-1)) = xs.take (xs.length - 1) := by
  unfold cutV
  have e1 : HT.sIx xs.length 0 none = 0 := rfl
  have e2 : HT.sIx xs.length xs.length (some (-1)) = xs.length - 1 := by
    unfold HT.sIx
    simp
    omega
  rw [e1, e2, List.drop_zero, Nat.sub_zero]
theorem szL {n : Nat} (h : n < 1000000) : n < sizeLine := Nat.lt_of_lt_of_le h (by decide)
def idxQ (S : Sty) (Z : List (List Nat)) (x : Nat × Nat) : Nat := (posL S Z).idxOf x
def rowQ (M L : Nat) (S : Sty) (Z : List (List Nat)) (a : Nat) : List (Nat × Nat × Nat) := (linesF M L S Z ((posL S Z).getD a (0, 0)).1 ((posL S Z).getD a (0, 0)).2).map fun y => (a, idxQ S Z y.1, y.2)
def netQ (M L : Nat) (S : Sty) (Z : List (List Nat)) : List (Nat × Nat × Nat) := (List.range ((posL S Z).length - 1)).flatMap (rowQ M L S Z)
section
variable {P : Program} {w : World} {K : PySem.W.Frag} {mg : Str → Option Value} {base : Heap}
def spLNet : Sp := fun vs H Q _ => ∃ (sa : Addr) (us : List V) (S : Sty) (Z : List (List Nat)) (M L : Nat), vs = [nV M, nV L, .ref sa] ∧ H sa = some (.tup us) ∧ LV (ShV S H) us Z ∧ WdsOk S Z ∧ M ≤ 1000000 ∧
  ∀ H' p t us, Same H H' → H' p = some (.tup [nV (posL S Z).length, .ref t]) → H' t = some (.tup us) → LV (ArcV H') us (netQ M L S Z) → Q (.ref p) H'
end
end Vf

set_option Elab.async false
set_option linter.all false
set_option maxRecDepth 100000
set_option maxHeartbeats 4000000
namespace Vf
open PySem PySem.Spec PyProof.Rows L2 TL
theorem eqv_nat {H : Hp} (i : Int) : Eqv 1 H (.int i) (.int i) := .inl (.inr (.inl ⟨i, rfl, rfl⟩))
theorem ends_asc (S : Sty) (zs : List Nat) (h0 : 0 < zs.length) : (ends S zs).Pairwise (· < ·) := by
  unfold ends
  rw [List.pairwise_cons]
  refine ⟨fun y hy => ?_, ?_⟩
  · rcases List.mem_append.mp hy with z | z
    · obtain ⟨r, hr, rfl⟩ := List.mem_map.mp z
      have := places_bd hr; omega
    · rw [List.mem_singleton.mp z]; exact h0
  · rw [List.pairwise_append]
    refine ⟨?_, List.pairwise_singleton _ _, fun a ha b hb => ?_⟩
    · rw [List.pairwise_map]; exact places_asc S zs
    · obtain ⟨r, hr, rfl⟩ := List.mem_map.mp ha
      rw [List.mem_singleton.mp hb]
      have := places_bd hr; omega
section
variable {P : Program} {w : World} {K : PySem.W.Frag} {mg : Str → Option Value} {base : Heap}
def spPiecesRight : Sp := fun vs H Q _ => ∃ (v u : V) (S : Sty) (zs : List Nat), vs = [v, sV zs, u] ∧ StyV H v S ∧ StyOk S ∧ WdOk zs ∧ 0 < zs.length ∧ ShapeV H u S zs ∧ ∀ H', Same H H' → Q (.bl true) H'
end
end Vf

set_option Elab.async false
set_option linter.all false
set_option maxRecDepth 100000
set_option maxHeartbeats 4000000
namespace Vf
open PySem PySem.Spec PyProof.Rows L2 TL
def TabV (S : Sty) (H : Hp) (x : V) (z : List Nat) : Prop := ∃ D kvs, x = .ref D ∧ H D = some (.dT kvs) ∧ ∀ k m : Nat, k ≤ nP S z → (m = 0 ∨ (k < m ∧ m ≤ nP S z)) → valV kvs (keyP (k, m)) = some (nV (pcW S z k m))
theorem TabV.same {S : Sty} {H H' : Hp} {x : V} {z : List Nat} (h : TabV S H x z) (k : Same H H') : TabV S H' x z := by
  obtain ⟨D, kvs, e, h1, h2⟩ := h
  exact ⟨D, kvs, e, k _ _ h1, h2⟩
def mE (n j : Nat) : Nat := if j = n + 1 then 0 else j
theorem mE_inj {n j j' : Nat} (h1 : 0 < j) (h2 : 0 < j') (l1 : j ≤ n + 1) (l2 : j' ≤ n + 1) (e : mE n j = mE n j') : j = j' := by
  unfold mE at e
  split at e <;> split at e <;> omega
theorem eA_le {S : Sty} {z : List Nat} {k : Nat} : eA S z k ≤ z.length := by
  unfold eA
  rw [List.getD_eq_getElem?_getD]
  cases e : (ends S z)[k]? with
  | none => exact Nat.zero_le _
  | some y =>
    show y ≤ z.length
    have hm := List.mem_of_getElem? e
    unfold ends at hm
    rcases List.mem_cons.mp hm with q | q
    · rw [q]; exact Nat.zero_le _
    · rcases List.mem_append.mp q with q | q
      · obtain ⟨r, hr, rfl⟩ := List.mem_map.mp q
        have := places_bd hr; omega
      · rw [List.mem_singleton.mp q]; exact Nat.le_refl _
theorem eA_lt {S : Sty} {z : List Nat} (h0 : 0 < z.length) {i j : Nat} (h : i < j) (hj : j ≤ nP S z + 1) : eA S z i < eA S z j := by
  have lE := ends_len S z
  have li : i < (ends S z).length := by unfold nP at hj; omega
  have lj : j < (ends S z).length := by unfold nP at hj; omega
  have := List.pairwise_iff_getElem.mp (ends_asc S z h0) i j li lj h
  unfold eA
  rw [List.getD_eq_getElem?_getD, List.getD_eq_getElem?_getD, List.getElem?_eq_getElem li, List.getElem?_eq_getElem lj]
  exact this
section
variable {P : Program} {w : World} {K : PySem.W.Frag} {mg : Str → Option Value} {base : Heap}
def spTab : Sp := fun vs H Q _ => ∃ (v : V) (S : Sty) (zs : List Nat), vs = [v, sV zs] ∧ StyV H v S ∧ StyOk S ∧ WdOk zs ∧ 0 < zs.length ∧ ∀ H' x, Same H H' → TabV S H' x zs → Q x H'
end
end Vf

set_option Elab.async false
set_option linter.all false
set_option maxRecDepth 100000
set_option maxHeartbeats 4000000
namespace Vf
open PySem PySem.Spec PyProof.Rows L2 TL
def tSel (K : PySem.W.Frag) (sl : Nat) : TE := fun σ H Q => ∃ (a : Nat) (b : Addr) (x y : Nat), σ[4]? = some (some (nV a)) ∧ σ[sl]? = some (some (.ref b)) ∧ H b = some (.tup [nV x, nV y]) ∧ Q (nV (if a = x then y else 0)) H
theorem sel_ok {K : PySem.W.Frag} {σ : L2.St} {H : Hp} {Q : VK} {sl a x y : Nat} {b : Addr} (e4 : σ[4]? = some (some (nV a))) (e1 : σ[sl]? = some (some (.ref b))) (eb : H b = some (.tup [nV x, nV y])) (q : Q (nV (if a = x then y else 0)) H) :
    tIf (tTest (tOp rEq (tVar 4) (tOp (rIxT K) (tVar sl) (tC (V.int 0))))) (tOp (rIxT K) (tVar sl) (tC (V.int 1))) (tC (V.int 0)) σ H Q := by
  refine ⟨_, e4, _, e1, b, _, 0, _, rfl, rfl, SqT.of eb, rfl, rfl, _, rfl, ?_⟩
  refine ifD (fun c => ?_) (fun c => ?_)
  · rw [if_pos (Int.ofNat.inj (V.int.inj c))] at q
    exact ⟨_, e1, b, _, 1, _, rfl, rfl, SqT.of eb, rfl, q⟩
  · rw [if_neg (fun z => c (by rw [z]))] at q
    exact q
def tPos (K : PySem.W.Frag) : TE := fun σ H Q => ∃ (b : Addr) (x y : Nat), σ[2]? = some (some (.ref b)) ∧ H b = some (.tup [nV x, nV y]) ∧ Q (nV (if 0 < y then 1 else 0)) H
theorem pos_ok {K : PySem.W.Frag} {σ : L2.St} {H : Hp} {Q : VK} {x y : Nat} {b : Addr} (e2 : σ[2]? = some (some (.ref b))) (eb : H b = some (.tup [nV x, nV y])) (q : Q (nV (if 0 < y then 1 else 0)) H) :
    tIf (tTest (tOp (rI0 fun i j => V.bl (decide (j < i))) (tOp (rIxT K) (tVar 2) (tC (V.int 1))) (tC (V.int 0)))) (tC (V.int 1)) (tC (V.int 0)) σ H Q := by
  refine ⟨_, e2, b, _, 1, _, rfl, rfl, SqT.of eb, rfl, _, _, rfl, rfl, _, rfl, ?_⟩
  refine ifD (fun c => ?_) (fun c => ?_)
  · have c : (0 : Int) < (y : Int) := c
    rw [if_pos (by omega)] at q; exact q
  · have c : ¬ (0 : Int) < (y : Int) := c
    rw [if_neg (by omega)] at q; exact q
section
variable {P : Program} {w : World} {K : PySem.W.Frag} {mg : Str → Option Value} {base : Heap}
def spPieces : Sp := fun vs H Q _ => ∃ (tl ba ea : Addr) (ts : List V) (S : Sty) (Z : List (List Nat)) (i k j m : Nat), vs = [.ref tl, .ref ba, .ref ea] ∧ H tl = some (.lst ts) ∧ LV (TabV S H) ts Z ∧ H ba = some (.tup [nV i, nV k]) ∧ H ea = some (.tup [nV j, nV m]) ∧ i < Z.length ∧ k ≤ nP S (wz Z i) ∧ ((j, m) = (Z.length, 0) ∨ (j < Z.length ∧ m ≤ nP S (wz Z j))) ∧ LtP (i, k) (j, m) ∧ Z.length ≤ 1000 ∧
  ∀ H', Same H H' → Q (nV (natW S Z i k (j, m))) H'
end
end Vf

set_option Elab.async false
set_option linter.all false
set_option maxRecDepth 100000
set_option maxHeartbeats 4000000
namespace Vf
open PySem PySem.Spec PyProof.Rows L2 TL
/-! ### what stands behind a place -/
theorem fm_cong {α β : Type} {f g : α → List β} : ∀ {l : List α}, (∀ a ∈ l, f a = g a) → l.flatMap f = l.flatMap g
  | [], _ => rfl
  | a :: l, h => by rw [List.flatMap_cons, List.flatMap_cons, h a List.mem_cons_self, fm_cong fun x hx => h x (List.mem_cons_of_mem _ hx)]
theorem fmp_cong {α β : Type} {f g : α → Option β} : ∀ {l : List α}, (∀ a ∈ l, f a = g a) → l.filterMap f = l.filterMap g
  | [], _ => rfl
  | a :: l, h => by
    have ih := fmp_cong (l := l) fun x hx => h x (List.mem_cons_of_mem _ hx)
    have e := h a List.mem_cons_self
    cases q : f a with
    | none => rw [List.filterMap_cons_none q, List.filterMap_cons_none (by rw [← e]; exact q), ih]
    | some y => rw [List.filterMap_cons_some q, List.filterMap_cons_some (by rw [← e]; exact q), ih]
theorem row_split (S : Sty) (Z : List (List Nat)) (i k : Nat) (h : k ≤ nP S (wz Z i)) : rowL S Z i = (List.range k).map (fun x => (i, x)) ++ (i, k) :: (List.range (nP S (wz Z i) - k)).map fun s => (i, k + 1 + s) := by
  unfold rowL
  rw [show nP S (wz Z i) + 1 = k + ((nP S (wz Z i) - k) + 1) by omega, List.range_add, List.map_append, List.range_succ_eq_map, List.map_map, List.map_cons, List.map_map]
  congr 1
  congr 1
  refine List.map_congr_left fun s _ => ?_
  show (i, k + (s + 1)) = (i, k + 1 + s)
  rw [show k + (s + 1) = k + 1 + s by omega]
theorem row_headed (S : Sty) (Z : List (List Nat)) (i k t : Nat) : headL i (t + 1) ++ innerL S Z i k (t + 1) = rowL S Z (i + (t + 1)) := by
  have h := row_split S Z (i + (t + 1)) 0 (Nat.zero_le _)
  rw [h]
  unfold headL innerL kkA
  rw [if_neg (Nat.succ_ne_zero t), if_neg (Nat.succ_ne_zero t)]
  rfl
theorem pos_split {S : Sty} {Z : List (List Nat)} {i k : Nat} (hi : i < Z.length) (hk : k ≤ nP S (wz Z i)) :
    posL S Z = ((List.range i).flatMap (rowL S Z) ++ (List.range k).map (fun x => (i, x))) ++ (i, k) :: afterL S Z i k := by
  unfold posL afterL
  obtain ⟨d, hd⟩ : ∃ d, Z.length - i = d + 1 := ⟨Z.length - i - 1, by omega⟩
  have e1 : List.range Z.length = List.range i ++ (List.range (d + 1)).map (fun x => i + x) := by rw [← hd, ← List.range_add, show i + (Z.length - i) = Z.length by omega]
  rw [e1, hd, List.flatMap_append, List.flatMap_map, List.range_succ_eq_map, List.flatMap_cons, List.flatMap_cons, List.flatMap_map, List.flatMap_map]
  have e2 : rowL S Z (i + 0) = (List.range k).map (fun x => (i, x)) ++ (i, k) :: (headL i 0 ++ innerL S Z i k 0) := by
    rw [Nat.add_zero, row_split S Z i k hk]
    rfl
  have e3 : (List.range d).flatMap (fun a => rowL S Z (i + Nat.succ a)) = (List.range d).flatMap (fun a => headL i (Nat.succ a) ++ innerL S Z i k (Nat.succ a)) := fm_cong fun a _ => (row_headed S Z i k a).symm
  rw [e2, e3]
  simp only [List.append_assoc, List.cons_append]
theorem pos_drop {S : Sty} {Z : List (List Nat)} {a i k : Nat} (hi : i < Z.length) (hk : k ≤ nP S (wz Z i)) (h : (posL S Z)[a]? = some (i, k)) : (posL S Z).drop (a + 1) = afterL S Z i k := by
  have hs := pos_split (S := S) hi hk
  generalize (List.range i).flatMap (rowL S Z) ++ (List.range k).map (fun x => (i, x)) = pre at hs
  have e : (posL S Z)[pre.length]? = some (i, k) := by
    rw [hs, List.getElem?_append_right (Nat.le_refl _), Nat.sub_self]; rfl
  have ea := pos_inj S Z _ _ _ h e
  rw [ea, hs, show pre ++ (i, k) :: afterL S Z i k = (pre ++ [(i, k)]) ++ afterL S Z i k by rw [List.append_assoc]; rfl]
  exact List.drop_left' (by rw [List.length_append]; rfl)
/-- a list's filter, told by the places -/
theorem fmp_range {α β : Type} (f : Nat → α → Option β) : ∀ (l : List α) (o : Nat), (l.zipIdx o).filterMap (fun y => f y.2 y.1) = (List.range l.length).filterMap fun s => (l[s]?).bind (f (o + s))
  | [], _ => rfl
  | a :: l, o => by
    rw [List.zipIdx_cons, List.length_cons, List.range_succ_eq_map]
    have ih := fmp_range f l (o + 1)
    have e : ((List.range l.length).map Nat.succ).filterMap (fun s => ((a :: l)[s]?).bind (f (o + s))) = (List.range l.length).filterMap fun s => (l[s]?).bind (f (o + 1 + s)) := by
      rw [List.filterMap_map]
      refine fmp_cong fun s _ => ?_
      show (l[s]?).bind (f (o + (s + 1))) = _
      rw [show o + (s + 1) = o + 1 + s by omega]
    cases h : f o a with
    | none =>
      rw [List.filterMap_cons_none (by exact h), List.filterMap_cons_none (by show Option.bind (some a) (f (o + 0)) = none; exact h), ih, e]
    | some y =>
      rw [List.filterMap_cons_some (b := y) (by exact h), List.filterMap_cons_some (b := y) (by show Option.bind (some a) (f (o + 0)) = some y; exact h), ih, e]
def arcD (M L : Nat) (S : Sty) (Z : List (List Nat)) (i k a b : Nat) (y : Nat × Nat) : Option (Nat × Nat × Nat) := if natW S Z i k y ≤ M then some (a, b, costQ M L S Z k y (natW S Z i k y)) else none
theorem fmp_zip {α β : Type} (g : α → Option β) : ∀ (l : List α) (o : Nat), (l.zipIdx o).filterMap (fun y => g y.1) = l.filterMap g
  | [], _ => rfl
  | a :: l, o => by
    rw [List.zipIdx_cons]
    cases h : g a with
    | none => rw [List.filterMap_cons_none (by exact h), List.filterMap_cons_none h, fmp_zip g l]
    | some y => rw [List.filterMap_cons_some (b := y) (by exact h), List.filterMap_cons_some h, fmp_zip g l]
/-- the arcs from the place a, as the law goes through the places behind it -/
theorem rowQ_law {M L : Nat} {S : Sty} {Z : List (List Nat)} {a : Nat} {x : Nat × Nat} (e : (posL S Z)[a]? = some x) (hi : x.1 < Z.length) (hk : x.2 ≤ nP S (wz Z x.1)) :
    rowQ M L S Z a = (List.range ((posL S Z).length - (a + 1))).filterMap fun s => ((posL S Z)[a + 1 + s]?).bind (arcD M L S Z x.1 x.2 a (a + 1 + s)) := by
  have hd := pos_drop (a := a) (i := x.1) (k := x.2) hi hk e
  have h1 : rowQ M L S Z a = (afterL S Z x.1 x.2).filterMap fun y => arcD M L S Z x.1 x.2 a (idxQ S Z y) y := by
    unfold rowQ linesF endsF
    rw [getD_of e, List.map_map, List.map_filterMap]
    refine fmp_cong fun y _ => ?_
    unfold fitO arcD
    by_cases c : natW S Z x.1 x.2 y ≤ M
    · rw [if_pos c, if_pos c]; rfl
    · rw [if_neg c, if_neg c]; rfl
  rw [h1, ← hd, ← fmp_zip _ _ (a + 1)]
  have h2 : (((posL S Z).drop (a + 1)).zipIdx (a + 1)).filterMap (fun y => arcD M L S Z x.1 x.2 a (idxQ S Z y.1) y.1) = (((posL S Z).drop (a + 1)).zipIdx (a + 1)).filterMap (fun y => arcD M L S Z x.1 x.2 a y.2 y.1) := fmp_cong fun y hy => by
    have ⟨h3, h4⟩ := List.mk_mem_zipIdx_iff_le_and_getElem?_sub.mp hy
    rw [List.getElem?_drop, show a + 1 + (y.2 - (a + 1)) = y.2 by omega] at h4
    have : idxQ S Z y.1 = y.2 := idxOf_at (pos_inj S Z) h4
    rw [this]
  rw [h2, fmp_range (fun b y => arcD M L S Z x.1 x.2 a b y), List.length_drop]
  refine fmp_cong fun s _ => ?_
  rw [List.getElem?_drop]
end Vf

set_option Elab.async false
set_option linter.all false
set_option maxRecDepth 100000
set_option maxHeartbeats 4000000
namespace Vf
open PySem PySem.Spec PyProof.Rows L2 TL
def PrcV (S : Sty) (H : Hp) (x : V) (z : List Nat) : Prop := ∃ b, x = .ref b ∧ H b = some (.lst ((places S z).map fun r => nV r.2))
theorem PrcV.same {S : Sty} {H H' : Hp} {x : V} {z : List Nat} (h : PrcV S H x z) (k : Same H H') : PrcV S H' x z := by
  obtain ⟨b, e, f⟩ := h
  exact ⟨b, e, k _ _ f⟩
theorem TabV.mut {S : Sty} {H : Hp} {D : Addr} {xs ys : List V} {x : V} {z : List Nat} (h : TabV S H x z) (eD : H D = some (.lst xs)) : TabV S (upd H D (.lst ys)) x z := by
  obtain ⟨E, kvs, e, h1, h2⟩ := h
  exact ⟨E, kvs, e, by rw [upd_ne (fun q => by rw [q, eD] at h1; cases h1)]; exact h1, h2⟩
theorem PrcV.mut {S : Sty} {H : Hp} {D : Addr} {xs ys : List V} {x : V} {z : List Nat} (h : PrcV S H x z) (eD : H D = some (.lst xs)) (ne : x ≠ .ref D) : PrcV S (upd H D (.lst ys)) x z := by
  obtain ⟨b, e, h1⟩ := h
  exact ⟨b, e, by rw [upd_ne (fun q => ne (by rw [e, q]))]; exact h1⟩
theorem pos_any {S : Sty} {Z : List (List Nat)} {b : Nat} {y : Nat × Nat} (h : (posL S Z)[b]? = some y) : y = (Z.length, 0) ∨ (y.1 < Z.length ∧ y.2 ≤ nP S (wz Z y.1)) := by
  have m := List.mem_of_getElem? h
  unfold posL at m
  rcases List.mem_append.mp m with m | m
  · obtain ⟨i, hi, hx⟩ := List.mem_flatMap.mp m
    unfold rowL at hx
    obtain ⟨u, hu, rfl⟩ := List.mem_map.mp hx
    exact .inr ⟨List.mem_range.mp hi, by show u ≤ nP S (wz Z i); have := List.mem_range.mp hu; omega⟩
  · exact .inl (List.mem_singleton.mp m)
theorem arc_app {H H3 : Hp} {l p : Addr} {zs : List V} {rs : List (Nat × Nat × Nat)} {a b c : Nat} {va vb vc : V} (ha : va = nV a) (hb : vb = nV b) (hc : vc = nV c) (k : Same H H3) (nl : H l = none) (el : H3 l = some (.lst zs)) (lz : LV (ArcV H3) zs rs) (np : H3 p = none) :
    upd H3 p (.tup [va, vb, vc]) l = some (.lst zs) ∧ Same H (upd (upd H3 p (.tup [va, vb, vc])) l (.lst (zs ++ [.ref p]))) ∧ LV (ArcV (upd (upd H3 p (.tup [va, vb, vc])) l (.lst (zs ++ [.ref p])))) (zs ++ [.ref p]) (rs ++ [(a, b, c)]) := by
  subst ha hb hc
  have k4 := same_upd (o := .tup [nV a, nV b, nV c]) (Same.refl H3) np
  have e4 : upd H3 p (.tup [nV a, nV b, nV c]) p = some (.tup [nV a, nV b, nV c]) := upd_same
  generalize upd H3 p (.tup [nV a, nV b, nV c]) = H4 at k4 e4
  have el4 := k4 _ _ el
  exact ⟨el4, same_mut (k.trans k4) nl, LV.snoc (lz.mono fun _ _ z => (z.mono fun a xs e => k4 _ _ e).mono (kt_mut el4)) ⟨p, rfl, kt_mut el4 _ _ e4⟩⟩
section
variable {P : Program} {w : World} {K : PySem.W.Frag} {mg : Str → Option Value} {base : Heap}
def spDuePl : Sp := fun vs H Q _ => ∃ (pl : Addr) (ps : List V) (S : Sty) (Z : List (List Nat)), vs = [.ref pl] ∧ H pl = some (.lst ps) ∧ LV (PrcV S H) ps Z ∧ WdsOk S Z ∧
  ∀ H' l vs, Same H H' → H l = none → H' l = some (.lst vs) → LV (FgV H') vs (posL S Z) → Q (.ref l) H'
def spDueN : Sp := fun vs H Q _ => ∃ (v : V) (wl : Addr) (S : Sty) (Z : List (List Nat)) (M L : Nat), vs = [v, .ref wl, nV M, nV L] ∧ StyV H v S ∧ H wl = some (.lst (Z.map sV)) ∧ WdsOk S Z ∧ (∀ z ∈ Z, WdOk z) ∧ M ≤ 1000000 ∧
  ∀ H' p pp np t pus us, Same H H' → H' p = some (.tup [.ref pp, .ref np]) → H' pp = some (.tup pus) → LV (FgV H') pus (posL S Z) → H' np = some (.tup [nV (posL S Z).length, .ref t]) → H' t = some (.tup us) → LV (ArcV H') us (netQ M L S Z) → Q (.ref p) H'
end
end Vf

set_option Elab.async false
set_option linter.all false
set_option maxRecDepth 100000
set_option maxHeartbeats 4000000
namespace Vf
open PySem PySem.Spec PyProof.Rows L2 TL
def alpL : List Nat := ("abcdefghijklmnopqrstuvwxyz0123456789.,:;!?'()+=<>*/" : Str).cps.toList
theorem alp_ok : ∀ c ∈ alpL, c < 1114112 ∧ c ≠ 95 := by decide +kernel
def bK (g k : Nat) : Nat := if k < 2 then g else min g 6
def sumB (g : Nat) : Nat → Nat
  | 0 => 0
  | k + 1 => sumB g k + (bK g k - 1)
theorem sumB_mono (g k : Nat) : ∀ d, sumB g k ≤ sumB g (k + d)
  | 0 => Nat.le_refl _
  | d + 1 => Nat.le_trans (sumB_mono g k d) (Nat.le_add_right _ _)
theorem sumB_le {g k n : Nat} (h : k ≤ n) : sumB g k ≤ sumB g n := by
  obtain ⟨d, rfl⟩ : ∃ d, n = k + d := ⟨n - k, by omega⟩
  exact sumB_mono g k d
def tLgst : TE := fun σ H Q => ∃ k g : Nat, σ[6]? = some (some (nV k)) ∧ σ[4]? = some (some (nV g)) ∧ Q (nV (bK g k)) H
theorem lgst_ok {σ : L2.St} {H : Hp} {Q : VK} {k g : Nat} (e6 : σ[6]? = some (some (nV k))) (e4 : σ[4]? = some (some (nV g))) (q : Q (nV (bK g k)) H) :
    tIf (tTest (tOp (rI0 fun i j => V.bl (decide (i < j))) (tVar 6) (tC (V.int 2)))) (tVar 4) (tCB (fun xs H Q => ∃ i j, xs = [V.int i, V.int j] ∧ Q (V.int (if j < i then j else i)) H) (tCons (tVar 4) (tCons (tC (V.int 6)) tNil))) σ H Q := by
  unfold bK at q
  refine ⟨_, e6, _, _, rfl, rfl, _, rfl, ?_⟩
  refine ifD (fun c => ?_) (fun c => ?_)
  · have c : (k : Int) < 2 := c
    rw [if_pos (by omega)] at q
    exact ⟨_, e4, q⟩
  · have c : ¬ (k : Int) < 2 := c
    rw [if_neg (by omega)] at q
    refine ⟨_, e4, _, _, rfl, ?_⟩
    exact Eq.mp (congrArg (fun v => Q v H) (congrArg V.int (by split <;> omega))) q
structure DwOk (Z : List (List Nat)) : Prop where
  wd : ∀ z ∈ Z, WdOk z
  ne : ∀ z ∈ Z, 0 < z.length
  ln : Z.length ≤ 30
  l0 : 0 < Z.length
  sm : (Z.map fun z => z.length - 1).sum ≤ 60
  al : ∀ z ∈ Z, ∀ c ∈ z, c ∈ alpL
section
variable {P : Program} {w : World} {K : PySem.W.Frag} {mg : Str → Option Value} {base : Heap}
def spDw : Sp := fun vs H Q _ => ∃ (d l : Addr), vs = [.ref d] ∧ DI d l H ∧ ∀ H' L Z, Kp d H H' → DI d l H' → H L = none → H' L = some (.lst (Z.map sV)) → DwOk Z → Q (.ref L) H'
theorem ok_dw (T : Txt K mg) : FnOk P w K mg base CX0 3 T.a_law_drawn_words T.d_law_drawn_words ["_law_d"] spDw := by
  have G_law_draw : FnOk P w K mg base CX0 1 T.a_law_draw T.d_law_draw ["_law_d", "_law_many"] spDraw := ok_draw T
  have G_law_pick : FnOk P w K mg base CX0 2 T.a_law_pick T.d_law_pick ["_law_d", "_law_row"] (spPick K) := ok_pick T
  have G_law_rare : FnOk P w K mg base CX0 2 T.a_law_rare T.d_law_rare ["_law_d", "_law_many"] spRare := ok_rare T
  refine T.D_law_drawn_words.F.ok sc_law_drawn_words (fun vs H Q E h => ?_) (fun cdv A outer s H vs Q E hr h => ?_)
  · obtain ⟨d, l, rfl, _⟩ := h
    rfl
  · obtain ⟨d, l, rfl, hD, q⟩ := h
    refine ⟨_, (pss_cons (ps_set (i := 1) sc_law_drawn_words.nd rfl (.inr rfl) (pe_call G_law_pick (hr.mono (by decide)) (by rfl) T.D_law_pick.G T.D_law_pick.F.kp T.D_law_pick.B .nil pass0 (pa_cons (pv 0) (pa_cons (pe_lst (pa_cons pe_str (pa_cons pe_str (pa_cons pe_str (pa_cons pe_str pa_nil))))) pa_nil))))
      (pss_cons (ps_set (i := 2) sc_law_drawn_words.nd rfl (.inl rfl) (pe_call G_law_draw (hr.mono (by decide)) (by rfl) T.D_law_draw.G T.D_law_draw.F.kp T.D_law_draw.B .nil pass0 (pa_cons (pv 0) (pa_cons pe_int pa_nil))))
      (pss_cons (ps_set (i := 3) sc_law_drawn_words.nd rfl (.inl rfl) (pe_op op_add pe_int (pe_call G_law_draw (hr.mono (by decide)) (by rfl) T.D_law_draw.G T.D_law_draw.F.kp T.D_law_draw.B .nil pass0 (pa_cons (pv 0) (pa_cons pe_int pa_nil)))))
      (pss_cons (ps_set (i := 4) sc_law_drawn_words.nd rfl (.inl rfl) pe_int)
      (Evl.pss_cut (ps_if (pt_cmpR op_eq (pv 2) pe_int (nomark _)) (pss_cons (ps_set (i := 3) sc_law_drawn_words.nd rfl (.inl rfl) (pe_op op_add pe_int (pe_call G_law_draw (hr.mono (by decide)) (by rfl) T.D_law_draw.G T.D_law_draw.F.kp T.D_law_draw.B .nil pass0 (pa_cons (pv 0) (pa_cons pe_int pa_nil)))))
      (pss_one (ps_set (i := 4) sc_law_drawn_words.nd rfl (.inl rfl) pe_int))) pss_nil)
      (Evl.pss_cut (ps_if (pt_cmpR op_eq (pv 2) pe_int (nomark _)) (pss_cons (ps_set (i := 3) sc_law_drawn_words.nd rfl (.inl rfl) (pe_ifExp (pt_val (pe_call G_law_rare (hr.mono (by decide)) (by rfl) T.D_law_rare.G T.D_law_rare.F.kp T.D_law_rare.B .nil pass0 (pa_cons (pv 0) (pa_cons pe_int pa_nil)))) (pe_op op_add pe_int (pe_call G_law_draw (hr.mono (by decide)) (by rfl) T.D_law_draw.G T.D_law_draw.F.kp T.D_law_draw.B .nil pass0 (pa_cons (pv 0) (pa_cons pe_int pa_nil)))) (pe_op op_add pe_int (pe_call G_law_draw (hr.mono (by decide)) (by rfl) T.D_law_draw.G T.D_law_draw.F.kp T.D_law_draw.B .nil pass0 (pa_cons (pv 0) (pa_cons pe_int pa_nil))))))
      (pss_one (ps_set (i := 4) sc_law_drawn_words.nd rfl (.inl rfl) pe_int))) pss_nil)
      (pss_cons (ps_set (i := 5) sc_law_drawn_words.nd rfl (.inl rfl) (pe_lst pa_nil))
      (pss_cons (ps_for PassesOwn.never rfl (pi_range1 (by rfl) T.n_range (pa_cons (pv 3) pa_nil)) (pg_name (i := 6) sc_law_drawn_words.nd rfl (.inl rfl)) (pss_cons (ps_set (i := 7) sc_law_drawn_words.nd rfl (.inl rfl) (pe_op op_add pe_int (pe_call G_law_draw (hr.mono (by decide)) (by rfl) T.D_law_draw.G T.D_law_draw.F.kp T.D_law_draw.B .nil pass0 (pa_cons (pv 0) (pa_cons (PE.to (t' := tLgst) (pe_ifExp (pt_cmpR op_lt (pv 6) pe_int (nomark _)) (pv 4) (pe_callB (call_min2 (by rfl)) (by rfl) T.n_min (by decide +kernel) (pa_cons (pv 4) (pa_cons pe_int pa_nil)))) (fun σ H Q h => by
      obtain ⟨k, g, e6, e4, q⟩ := h
      exact lgst_ok e6 e4 q)) pa_nil)))))
      (pss_one (ps_expr (pe_bm PySem.F.plainAttrs_list PySem.F.slot_list_append PySem.F.type_list_append mt_append (pv 5) (pa_cons (pe_join pe_str (pe_lc (own := [("_law_n", 8)]) (g := gName 8) (tt := tYes) rfl sc_law_drawn_words.nd (pi_range1 (by rfl) T.n_range (pa_cons (pv 7) pa_nil)) (blkOk_by (own := [("_law_n", 8)]) (N := ["_law_d", "_law_signs", "_law_kind", "_law_many", "_law_longest", "_law_words", "_law_k", "_law_long", "_law_n"]) (sc := (defScope s_law_drawn_words)) (by decide +kernel)) (fun _ _ _ _ _ => (pg_name (i := 8) sc_law_drawn_words.nd rfl (.inl rfl))) (fun _ _ _ _ _ => pts_nil) (fun _ _ _ _ _ => (pe_call G_law_pick (hr.mono (by decide)) (by rfl) T.D_law_pick.G T.D_law_pick.F.kp T.D_law_pick.B .nil pass0 (pa_cons (pv 0) (pa_cons (pv 1) pa_nil)))))) pa_nil))))))
      (pss_one (ps_ret (pv 5))))))))))), ?_⟩
    refine ⟨_, rfl, by show 4 ≤ sizeLine; decide, fun p np => ?_⟩
    refine ⟨d, l, _, _, rfl, hD.new np, .inl ⟨p, rfl, (hD.nd np).1, SqL.of upd_same⟩, by simp, by simp, fun H1 v K1 D1 hv => ?_⟩
    obtain ⟨cs, rfl, c0, c1, cb⟩ : ∃ cs : List Nat, v = sV cs ∧ 0 < cs.length ∧ cs.length ≤ 1000 ∧ ∀ c ∈ cs, c ∈ alpL := by
      simp only [List.mem_cons, List.not_mem_nil, or_false] at hv
      have hall : ∀ z : Str, (decide (0 < z.cps.toList.length) && decide (z.cps.toList.length ≤ 1000) && z.cps.toList.all fun c => alpL.contains c) = true → V.str z = sV z.cps.toList ∧ 0 < z.cps.toList.length ∧ z.cps.toList.length ≤ 1000 ∧ ∀ c ∈ z.cps.toList, c ∈ alpL := by
        intro z hz
        rw [Bool.and_eq_true, Bool.and_eq_true] at hz
        exact ⟨rfl, of_decide_eq_true hz.1.1, of_decide_eq_true hz.1.2, fun c hc => List.contains_iff_mem.mp (List.all_eq_true.mp hz.2 c hc)⟩
      rcases hv with rfl | rfl | rfl | rfl
      all_goals exact ⟨_, hall _ (by decide +kernel)⟩
    have KA := ((Kp.refl d H).new np).trans K1
    refine ⟨_, rfl, d, l, 8, rfl, D1, by decide, fun H2 r2 K2 D2 _ p2 => ?_⟩
    have ⟨a2, b2⟩ := p2 (by decide)
    obtain ⟨kd, rfl⟩ : ∃ m : Nat, r2 = (m : Int) := ⟨r2.toNat, by omega⟩
    refine ⟨_, rfl, d, l, 6, rfl, D2, by decide, fun H3 r3 K3 D3 _ p3 => ?_⟩
    have ⟨a3, b3⟩ := p3 (by decide)
    obtain ⟨m3, rfl⟩ : ∃ m : Nat, r3 = (m : Int) := ⟨r3.toNat, by omega⟩
    refine ⟨(1 : Int), (m3 : Int), rfl, rfl, ?_⟩
    have KB := KA.trans (K2.trans K3)
    refine ⟨fun σ' H' => ∃ m g : Nat, σ' = [some (.ref d), some (sV cs), some (nV kd), some (nV m), some (nV g), none, none, none, none] ∧ Kp d H H' ∧ DI d l H' ∧ 1 ≤ m ∧ m ≤ 30 ∧ g ≤ 16 ∧ 1 ≤ g ∧ sumB g m ≤ 60, ?_, ?_⟩
    · refine ⟨_, rfl, rfl, _, rfl, ?_⟩
      refine ifD (fun c => ?_) (fun c => ?_)
      · refine ⟨_, rfl, d, l, 4, rfl, D3, by decide, fun H4 r4 K4 D4 _ p4 => ?_⟩
        have ⟨a4, b4⟩ := p4 (by decide)
        obtain ⟨m4, rfl⟩ : ∃ m : Nat, r4 = (m : Int) := ⟨r4.toNat, by omega⟩
        refine ⟨(1 : Int), (m4 : Int), rfl, rfl, ?_⟩
        refine ⟨1 + m4, 16, ?_, KB.trans K4, D4, by omega, by omega, by omega, by omega, Nat.le_trans (sumB_le (n := 4) (by omega)) (by decide)⟩
        show [_, _, _, some (V.int (1 + (m4 : Int))), _, _, _, _, _] = _
        rw [show V.int (1 + (m4 : Int)) = nV (1 + m4) from congrArg V.int (by omega)]; rfl
      · refine ⟨1 + m3, 6, ?_, KB, D3, by omega, by omega, by omega, by omega, Nat.le_trans (sumB_le (n := 6) (by omega)) (by decide)⟩
        show [_, _, _, some (V.int (1 + (m3 : Int))), _, _, _, _, _] = _
        rw [show V.int (1 + (m3 : Int)) = nV (1 + m3) from congrArg V.int (by omega)]; rfl
    rintro σ' H4 ⟨m, g, rfl, K4, D4, m1, m30, g16, g1, sb⟩
    refine ⟨fun σ' H' => ∃ m g : Nat, σ' = [some (.ref d), some (sV cs), some (nV kd), some (nV m), some (nV g), none, none, none, none] ∧ Kp d H H' ∧ DI d l H' ∧ 1 ≤ m ∧ m ≤ 30 ∧ g ≤ 16 ∧ 1 ≤ g ∧ sumB g m ≤ 60, ?_, ?_⟩
    · refine ⟨_, rfl, rfl, _, rfl, ?_⟩
      refine ifD (fun c => ?_) (fun c => ?_)
      · have s3 : ∀ n : Nat, n ≤ 30 → sumB 3 n ≤ 60 := fun n hn => Nat.le_trans (sumB_le hn) (by decide)
        refine ⟨_, rfl, d, l, 4, rfl, D4, by decide, fun H5 b K5 D5 => ⟨b, rfl, ?_⟩⟩
        cases b with
        | true =>
          refine iteT ?_
          refine ⟨_, rfl, d, l, 18, rfl, D5, by decide, fun H6 r6 K6 D6 _ p6 => ?_⟩
          have ⟨a6, b6⟩ := p6 (by decide)
          obtain ⟨m6, rfl⟩ : ∃ m : Nat, r6 = (m : Int) := ⟨r6.toNat, by omega⟩
          refine ⟨(13 : Int), (m6 : Int), rfl, rfl, ?_⟩
          refine ⟨13 + m6, 3, ?_, (K4.trans K5).trans K6, D6, by omega, by omega, by omega, by omega, s3 _ (by omega)⟩
          show [_, _, _, some (V.int (13 + (m6 : Int))), _, _, _, _, _] = _
          rw [show V.int (13 + (m6 : Int)) = nV (13 + m6) from congrArg V.int (by omega)]; rfl
        | false =>
          refine iteF ?_
          refine ⟨_, rfl, d, l, 6, rfl, D5, by decide, fun H6 r6 K6 D6 _ p6 => ?_⟩
          have ⟨a6, b6⟩ := p6 (by decide)
          obtain ⟨m6, rfl⟩ : ∃ m : Nat, r6 = (m : Int) := ⟨r6.toNat, by omega⟩
          refine ⟨(7 : Int), (m6 : Int), rfl, rfl, ?_⟩
          refine ⟨7 + m6, 3, ?_, (K4.trans K5).trans K6, D6, by omega, by omega, by omega, by omega, s3 _ (by omega)⟩
          show [_, _, _, some (V.int (7 + (m6 : Int))), _, _, _, _, _] = _
          rw [show V.int (7 + (m6 : Int)) = nV (7 + m6) from congrArg V.int (by omega)]; rfl
      · exact ⟨m, g, rfl, K4, D4, m1, m30, g16, g1, sb⟩
    rintro σ' H5 ⟨m, g, rfl, K5, D5, m1, m30, g16, g1, sb⟩
    refine ⟨by show 0 ≤ sizeLine; decide, fun W nW => ?_⟩
    have ndW := D5.nd nW
    have nWH : H W = none := by
      cases e : H W with
      | none => rfl
      | some o =>
        have := K5 _ _ ndW.1 e
        rw [nW] at this; cases this
    refine ⟨_, rfl, (m : Int), rfl, by omega, by omega, ?_⟩
    rw [Int.toNat_natCast]
    refine for_it walk_range (fun k σ' H' => ∃ (x6 x7 : Option V) (Z : List (List Nat)), σ' = [some (.ref d), some (sV cs), some (nV kd), some (nV m), some (nV g), some (.ref W), x6, x7, none] ∧ Kp d H H' ∧ DI d l H' ∧ H' W = some (.lst (Z.map sV)) ∧ Z.length = k ∧ (∀ z ∈ Z, WdOk z) ∧ (∀ z ∈ Z, 0 < z.length) ∧ (Z.map fun z => z.length - 1).sum ≤ sumB g k ∧ (∀ z ∈ Z, ∀ c ∈ z, c ∈ alpL))
      ⟨none, none, [], rfl, K5.new nW, D5.new nW, upd_same, rfl, (fun _ h => nomatch h), (fun _ h => nomatch h), Nat.le_refl _, (fun _ h => nomatch h)⟩ (fun _ _ _ _ _ => trivial) ?_ ?_
    · rintro k x σ' H0 H6 hk ⟨x6, x7, Z, rfl, K6, D6, eW, hl, w1, w2, w3, w4⟩ ⟨rfl, hx⟩
      have hx : x = nV k := by rw [hx]; exact int0 k
      subst hx
      have bk1 : 1 ≤ bK g k := by unfold bK; split <;> omega
      have bk16 : bK g k ≤ 16 := by unfold bK; split <;> omega
      refine ⟨_, rfl, k, g, rfl, rfl, d, l, (bK g k : Int), rfl, D6, by omega, fun H7 r K7 D7 e1 e2 => ?_⟩
      obtain ⟨j, rfl, hj⟩ : ∃ j : Nat, r = (j : Int) ∧ j < bK g k := by
        by_cases c : (2 : Int) ≤ (bK g k : Int)
        · have := e2 c; exact ⟨r.toNat, by omega, by omega⟩
        · exact ⟨0, e1 (by omega), by omega⟩
      have eW7 := K7 _ _ ndW.1 eW
      refine ⟨(1 : Int), (j : Int), rfl, rfl, ?_⟩
      refine ⟨.ref W, rfl, .inl ⟨rfl, _, .inl (.inl eW7)⟩, ?_⟩
      refine ⟨⟨_, rfl⟩, _, rfl, _, rfl, by omega, by omega, fun D nD => lc_range (lo := 0) (n := (1 + (j : Int)).toNat) (PvS (One cs) d l H7 D) (PvS.start D7 nD) (fun i H5 hi p => ⟨rfl, _, rfl, _, rfl, pick_one p.dice c0 c1 fun H2 zs k2 d2 r => p.step D7 nD (by omega) k2 d2 r⟩) (fun H' p => ?_)⟩
      obtain ⟨zss, hl2, hR, K8, D8, e8⟩ := p
      have ⟨f1, f2⟩ := one_flat hR
      refine ⟨_, D, zss.map mkS, rfl, rfl, .inl (SqL.of (by rw [e8, map_sV])), ?_, ?_⟩
      · rw [sum_len, f1, show (("" : Str)).length = 0 from by rw [empty_mk, mkS_len]; rfl]; omega
      · rw [join_mk]
        have fl : zss.flatten.length = 1 + j := by rw [f1, hl2]; omega
        have eW8 := K8 _ _ ndW.1 eW7
        have zc : ∀ c ∈ zss.flatten, c ∈ alpL := fun c hc => cb c (f2 c hc)
        have lt : (Z.map sV).length < sizeLine := by rw [List.length_map, hl]; exact Nat.lt_of_lt_of_le (show k < 100 by omega) (by show 100 ≤ sizeLine; decide)
        refine ⟨W, _, _, rfl, rfl, eW8, lt, ?_⟩
        refine ⟨some (nV k), _, Z ++ [zss.flatten], rfl, ((K6.trans K7).trans K8).mut nWH, D8.at ndW.1 ndW.2, ?_, ?_, ?_, ?_, ?_, ?_⟩
        · rw [List.map_append]; exact upd_same
        · rw [List.length_append, hl]; rfl
        · intro z hz
          rcases List.mem_append.mp hz with hz | hz
          · exact w1 z hz
          · rw [List.mem_singleton.mp hz]
            exact ⟨by omega, fun c hc => (alp_ok c (zc c hc)).1, fun c hc => (alp_ok c (zc c hc)).2⟩
        · intro z hz
          rcases List.mem_append.mp hz with hz | hz
          · exact w2 z hz
          · rw [List.mem_singleton.mp hz]; omega
        · rw [List.map_append, List.sum_append]
          show _ + (zss.flatten.length - 1 + 0) ≤ sumB g k + (bK g k - 1)
          omega
        · intro z hz
          rcases List.mem_append.mp hz with hz | hz
          · exact w4 z hz
          · rw [List.mem_singleton.mp hz]; exact zc
    · rintro σ' H6 ⟨x6, x7, Z, rfl, K6, D6, eW, hl, w1, w2, w3, w4⟩
      exact ⟨_, rfl, q H6 W Z K6 D6 nWH eW ⟨w1, w2, by omega, by omega, Nat.le_trans w3 sb, w4⟩⟩
end
end Vf

set_option Elab.async false
set_option linter.all false
set_option maxRecDepth 100000
set_option maxHeartbeats 4000000
namespace Vf
open PySem PySem.Spec PyProof.Rows L2 TL
/-! ### drawn styles: the mathematics -/
theorem rising_sg : ∀ (p : Nat) (l : List Nat), risingS (sg1 p) (l.map sg1) = true → (∀ x ∈ l, p ≤ x) ∧ l.Pairwise (· ≤ ·)
  | _, [], _ => ⟨(fun _ h => nomatch h), List.Pairwise.nil⟩
  | p, x :: r, h => by
    have h : (!ltCps (sg1 x).cps.toList (sg1 p).cps.toList && risingS (sg1 x) (r.map sg1)) = true := h
    rw [Bool.and_eq_true] at h
    obtain ⟨h1, h2⟩ := rising_sg x r h.2
    have hp : p ≤ x := by
      have h3 := h.1
      have e : ltCps (sg1 x).cps.toList (sg1 p).cps.toList = (decide (x < p) || ((x == p) && false)) := rfl
      rw [e, Bool.and_false, Bool.or_false] at h3
      by_cases c : x < p
      · rw [decide_eq_true c] at h3; cases h3
      · omega
    refine ⟨fun y hy => ?_, List.pairwise_cons.mpr ⟨h1, h2⟩⟩
    rcases List.mem_cons.mp hy with z | z
    · rw [z]; exact hp
    · exact Nat.le_trans hp (h1 y z)
theorem sorted_sg {l : List Nat} (h : sortedS (l.map sg1) = true) : l.Pairwise (· ≤ ·) := by
  cases l with
  | nil => exact .nil
  | cons x r =>
    have h : risingS (sg1 x) (r.map sg1) = true := h
    obtain ⟨h1, h2⟩ := rising_sg x r h
    exact List.pairwise_cons.mpr ⟨h1, h2⟩
theorem sorted_lt {l : List Nat} (h : l.Pairwise (· ≤ ·)) (nd : l.Nodup) : l.Pairwise (· < ·) := (h.and nd).imp fun ⟨a, b⟩ => Nat.lt_of_le_of_ne a b
def le2 (a b : Nat × Nat) : Prop := a.1 < b.1 ∨ (a.1 = b.1 ∧ a.2 ≤ b.2)
theorem sorted_lex {l : List (Nat × Nat)} (h : l.Pairwise le2) (nd : l.Nodup) : l.Pairwise fun a b => lexN [a.1, a.2] [b.1, b.2] = true := (h.and nd).imp fun {a b} ⟨x, y⟩ => by
  show (if a.1 = b.1 then (if a.2 = b.2 then false else decide (a.2 < b.2)) else decide (a.1 < b.1)) = true
  by_cases e : a.1 = b.1
  · rw [if_pos e]
    by_cases e2 : a.2 = b.2
    · exact absurd (Prod.ext e e2) y
    · rw [if_neg e2]
      rcases x with x | x
      · exact absurd e (by omega)
      · exact decide_eq_true (by have := x.2; omega)
  · rw [if_neg e]
    rcases x with x | x
    · exact decide_eq_true x
    · exact absurd x.1 e
theorem fm_succ {α β : Type} {g : α → Option β} {l : List α} {n : Nat} {x : α} (h : l[n]? = some x) : (l.take (n + 1)).filterMap g = (l.take n).filterMap g ++ (g x).toList := by
  rw [take_succ' h, List.filterMap_append]
  have e2 : [x].filterMap g = (g x).toList := by
    cases e : g x with
    | none => rw [List.filterMap_cons_none e]; rfl
    | some y => rw [List.filterMap_cons_some e]; rfl
  rw [e2]
/-- rows by keys that have a value -/
theorem look_fm {κ β : Type} [DecidableEq κ] (f : κ → Option β) (l : List κ) (k : κ) : look (l.filterMap fun c => (f c).map fun p => (c, p)) k = if k ∈ l then f k else none := by
  induction l with
  | nil => rfl
  | cons c l ih =>
    cases e : f c with
    | none =>
      rw [List.filterMap_cons_none (by rw [e]; rfl), ih]
      by_cases h : k ∈ l
      · rw [if_pos h, if_pos (List.mem_cons_of_mem _ h)]
      · rw [if_neg h]
        by_cases h2 : k = c
        · rw [if_pos (by rw [h2]; exact List.mem_cons_self), h2, e]
        · rw [if_neg fun z => (List.mem_cons.mp z).elim h2 h]
    | some p =>
      rw [List.filterMap_cons_some (b := (c, p)) (by rw [e]; rfl)]
      by_cases h2 : c = k
      · subst h2
        rw [if_pos List.mem_cons_self, e]
        exact look_hit
      · rw [look_miss h2, ih]
        by_cases h : k ∈ l
        · rw [if_pos h, if_pos (List.mem_cons_of_mem _ h)]
        · rw [if_neg h, if_neg fun z => (List.mem_cons.mp z).elim (fun y => h2 y.symm) h]
theorem look_key {κ β : Type} [DecidableEq κ] {L : List (κ × β)} {k : κ} (h : k ∈ L.map (·.1)) : ∃ x, look L k = some x := by
  induction L with
  | nil => cases h
  | cons r L ih =>
    by_cases e : r.1 = k
    · exact ⟨r.2, by rw [← e]; exact look_hit⟩
    · rw [look_miss e]
      rcases List.mem_cons.mp h with z | z
      · exact absurd z.symm e
      · exact ih z
theorem look_nokey {κ β : Type} [DecidableEq κ] {L : List (κ × β)} {k : κ} (h : k ∉ L.map (·.1)) : look L k = none := look_none fun r hr e => h (List.mem_map.mpr ⟨r, hr, e⟩)
theorem valV_look {κ : Type} [DecidableEq κ] (kvs : List (κ × V)) (k : κ) : valV kvs k = look kvs k := rfl
def wkV (k : List (Nat × Nat)) : List (Key × V) := k.map fun r => (Sum.inr (sg1 r.1), natV r.2)
def kk2 (k : Nat × Nat) : List Key := [Sum.inr (sg1 k.1), Sum.inr (sg1 k.2)]
def ckV (k : List ((Nat × Nat) × Nat)) : List (List Key × V) := k.map fun r => (kk2 r.1, natV r.2)
def bkV (k : List ((Nat × Nat) × Option Nat)) : List (List Key × V) := k.map fun r => (kk2 r.1, prV r.2)
theorem sg1_inj {a b : Nat} (h : sg1 a = sg1 b) : a = b := by
  have := congrArg (fun t : Str => t.cps.toList) h
  exact (List.cons.inj this).1
theorem kk2_inj {a b : Nat × Nat} (h : kk2 a = kk2 b) : a = b := by
  have h1 := List.cons.inj h
  have h2 := List.cons.inj h1.2
  exact Prod.ext (sg1_inj (Sum.inr.inj h1.1)) (sg1_inj (Sum.inr.inj h2.1))
theorem wkV_get (k : List (Nat × Nat)) (c : Nat) : valV (wkV k) (Sum.inr (sg1 c)) = (look k c).map natV := look_map (f := fun c : Nat => (Sum.inr (sg1 c) : Key)) (g := natV) (fun a b e => sg1_inj (Sum.inr.inj e)) k c
theorem ckV_get (k : List ((Nat × Nat) × Nat)) (c : Nat × Nat) : valV (ckV k) (kk2 c) = (look k c).map natV := look_map (f := kk2) (g := natV) (fun a b e => kk2_inj e) k c
theorem bkV_get (k : List ((Nat × Nat) × Option Nat)) (c : Nat × Nat) : valV (bkV k) (kk2 c) = (look k c).map prV := look_map (f := kk2) (g := prV) (fun a b e => kk2_inj e) k c
theorem wkV_put {k : List (Nat × Nat)} {c x : Nat} (h : look k c = none) : putK (wkV k) (Sum.inr (sg1 c)) (natV x) = wkV (k ++ [(c, x)]) := by
  rw [putK_new _ (by rw [wkV_get, h]; rfl)]
  unfold wkV
  rw [List.map_append]; rfl
theorem ckV_put {k : List ((Nat × Nat) × Nat)} {c : Nat × Nat} {x : Nat} (h : look k c = none) : putK (ckV k) (kk2 c) (natV x) = ckV (k ++ [(c, x)]) := by
  rw [putK_new _ (by rw [ckV_get, h]; rfl)]
  unfold ckV
  rw [List.map_append]; rfl
theorem bkV_put {k : List ((Nat × Nat) × Option Nat)} {c : Nat × Nat} {x : Option Nat} (h : look k c = none) : putK (bkV k) (kk2 c) (prV x) = bkV (k ++ [(c, x)]) := by
  rw [putK_new _ (by rw [bkV_get, h]; rfl)]
  unfold bkV
  rw [List.map_append]; rfl
theorem bkV_again {k : List ((Nat × Nat) × Option Nat)} {c : Nat × Nat} {x y : Option Nat} (h : look k c = none) : putK (bkV (k ++ [(c, x)])) (kk2 c) (prV y) = bkV (k ++ [(c, y)]) := by
  unfold putK
  have e : valV (bkV (k ++ [(c, x)])) (kk2 c) = some (prV x) := by
    rw [bkV_get, look_snoc (fun q hq z => ?_), if_pos rfl]
    · rfl
    · obtain ⟨v, hv⟩ := look_key (L := k) (List.mem_map.mpr ⟨q, hq, z⟩)
      rw [h] at hv; cases hv
  rw [if_pos (by rw [valV_any, e]; rfl)]
  unfold bkV
  rw [List.map_append, List.map_append, List.map_append]
  congr 1
  · rw [List.map_map]
    apply List.map_congr_left
    intro r hr
    show (if kk2 r.1 = kk2 c then (kk2 r.1, prV y) else (kk2 r.1, prV r.2)) = _
    rw [if_neg]
    intro z
    obtain ⟨v, hv⟩ := look_key (L := k) (List.mem_map.mpr ⟨r, hr, kk2_inj z⟩)
    rw [h] at hv; cases hv
  · show [if kk2 c = kk2 c then (kk2 c, prV y) else (kk2 c, prV x)] = _
    rw [if_pos rfl]; rfl
/-- rows as they are gathered -/
def RowsL (H : Hp) (vs : List V) (L : List (List Nat × V)) : Prop := vs.length = L.length ∧ ∀ (i : Nat) (r : List Nat × V), L[i]? = some r → ∃ b : Addr, vs[i]? = some (.ref b) ∧ H b = some (.tup (rowV r))
theorem RowsL.same {H H' : Hp} {vs : List V} {L : List (List Nat × V)} (h : RowsL H vs L) (k : ∀ a xs, H a = some (.tup xs) → H' a = some (.tup xs)) : RowsL H' vs L := ⟨h.1, fun i r e => by
  obtain ⟨b, e1, e2⟩ := h.2 i r e
  exact ⟨b, e1, k _ _ e2⟩⟩
theorem RowsL.snoc {H : Hp} {vs : List V} {L : List (List Nat × V)} {b : Addr} {r : List Nat × V} (h : RowsL H vs L) (hb : H b = some (.tup (rowV r))) : RowsL H (vs ++ [.ref b]) (L ++ [r]) := by
  refine ⟨by rw [List.length_append, List.length_append, h.1]; rfl, fun i q e => ?_⟩
  by_cases hi : i < L.length
  · rw [List.getElem?_append_left hi] at e
    obtain ⟨y, e1, e2⟩ := h.2 i q e
    exact ⟨y, by rw [List.getElem?_append_left (by rw [h.1]; exact hi)]; exact e1, e2⟩
  · rw [List.getElem?_append_right (by omega)] at e
    have e0 : i - L.length = 0 := by
      have := (List.getElem?_eq_some_iff.mp e).1
      simp at this
      exact this
    rw [e0] at e
    have e : r = q := Option.some.inj e
    subst e
    exact ⟨b, by rw [List.getElem?_append_right (by rw [h.1]; omega), h.1, e0]; rfl, hb⟩
theorem RowsL.toV {H : Hp} {a : Addr} {vs : List V} {L : List (List Nat × V)} (h : RowsL H vs L) (e : H a = some (.tup vs)) : RowsV H (.ref a) L := ⟨a, vs, rfl, e, h.1, h.2⟩
def fW (wk : List (Nat × Nat)) (c : Nat) : Option Nat := if 1 < wOf wk c then some (wOf wk c) else none
def fC (ck : List ((Nat × Nat) × Nat)) (k : Nat × Nat) : Option Nat := if 0 < cutOf ck k.1 k.2 then some (cutOf ck k.1 k.2) else none
def fB (bk : List ((Nat × Nat) × Option Nat)) (k : Nat × Nat) : Option Nat := (look bk k).getD none
def rowsOf {κ : Type} (f : κ → Option Nat) (l : List κ) : List (κ × Nat) := l.filterMap fun c => (f c).map fun p => (c, p)
theorem rowsOf_len {κ : Type} (f : κ → Option Nat) (l : List κ) : (rowsOf f l).length ≤ l.length := List.length_filterMap_le _ _
theorem rowsOf_mem {κ : Type} {f : κ → Option Nat} {l : List κ} {r : κ × Nat} (h : r ∈ rowsOf f l) : r.1 ∈ l ∧ f r.1 = some r.2 := by
  obtain ⟨c, hc, e⟩ := List.mem_filterMap.mp h
  cases e2 : f c with
  | none => rw [e2] at e; cases e
  | some p =>
    rw [e2] at e
    have e : (c, p) = r := Option.some.inj e
    subst e
    exact ⟨hc, e2⟩
theorem rowsOf_pw {κ : Type} {R : κ → κ → Prop} {f : κ → Option Nat} {l : List κ} (h : l.Pairwise R) : (rowsOf f l).Pairwise fun a b => R a.1 b.1 := by
  refine List.Pairwise.filterMap _ ?_ h
  intro a b hab p hp q hq
  cases e1 : f a with
  | none => rw [e1] at hp; cases hp
  | some x =>
    cases e2 : f b with
    | none => rw [e2] at hq; cases hq
    | some y =>
      rw [e1] at hp
      rw [e2] at hq
      have hp : (a, x) = p := Option.some.inj hp
      have hq : (b, y) = q := Option.some.inj hq
      subst hp hq
      exact hab
structure Dicts (wk : List (Nat × Nat)) (ck : List ((Nat × Nat) × Nat)) (bk : List ((Nat × Nat) × Option Nat)) : Prop where
  nw : (wk.map (·.1)).Nodup
  w3 : ∀ r ∈ wk, 1 ≤ r.2 ∧ r.2 ≤ 3
  uw : ∀ r ∈ wk, r.1 < 1114112
  lw : wk.length ≤ 60
  nc : (ck.map (·.1)).Nodup
  cb : ck.map (·.1) = bk.map (·.1)
  lc : ck.length ≤ 60
  cw : ∀ r ∈ ck, r.2 < wOf wk r.1.1
  uc : ∀ r ∈ ck, r.1.1 < 1114112 ∧ r.1.2 < 1114112
theorem style_ok {wk : List (Nat × Nat)} {ck : List ((Nat × Nat) × Nat)} {bk : List ((Nat × Nat) × Option Nat)} (D : Dicts wk ck bk) {ys : List Nat} {ks js : List (Nat × Nat)} (h1 : ys.Perm (wk.map (·.1))) (s1 : ys.Pairwise (· ≤ ·)) (h2 : ks.Perm (ck.map (·.1))) (s2 : ks.Pairwise le2) (h3 : js.Perm (bk.map (·.1))) (s3 : js.Pairwise le2) (m dp cl : Int) :
    StyOk ⟨m, dp, cl, rowsOf (fW wk) ys, rowsOf (fC ck) ks, rowsOf (fB bk) js⟩ := by
  have hy : ∀ r ∈ rowsOf (fW wk) ys, ∃ x, look wk r.1 = some x ∧ (r.1, x) ∈ wk := fun r hr => by
    obtain ⟨x, hx⟩ := look_key (h1.mem_iff.mp (rowsOf_mem hr).1)
    exact ⟨x, hx, look_mem hx⟩
  have w1 : ∀ c, 1 ≤ wOf wk c ∧ wOf wk c ≤ 3 := fun c => by
    unfold wOf
    cases e : look wk c with
    | none => exact ⟨Nat.le_refl _, by decide⟩
    | some w => exact D.w3 _ (look_mem e)
  have wl : ∀ c, wOf (rowsOf (fW wk) ys) c = wOf wk c := fun c => by
    show (look (ys.filterMap fun c => (fW wk c).map fun p => (c, p)) c).getD 1 = _
    rw [look_fm]
    by_cases hc : c ∈ ys
    · rw [if_pos hc]
      unfold fW
      by_cases h : 1 < wOf wk c
      · rw [if_pos h]; rfl
      · rw [if_neg h]
        show 1 = _
        have := (w1 c).1
        omega
    · rw [if_neg hc]
      unfold wOf
      rw [look_nokey fun z => hc (h1.mem_iff.mpr z)]
  have nb : (bk.map (·.1)).Nodup := by rw [← D.cb]; exact D.nc
  have ub : ∀ k ∈ bk.map (·.1), k.1 < 1114112 ∧ k.2 < 1114112 := fun k hk => by
    rw [← D.cb] at hk
    obtain ⟨r, hr, rfl⟩ := List.mem_map.mp hk
    exact D.uc r hr
  refine ⟨?_, ?_, ?_, ?_, ?_, ?_, ?_, ?_, ?_, ?_, ?_⟩
  · show (List.map _ (rowsOf (fW wk) ys)).Pairwise _
    rw [List.pairwise_map]
    exact (rowsOf_pw (sorted_lt s1 (h1.nodup_iff.mpr D.nw))).imp fun {a b} h => by
      show (if a.1 = b.1 then false else decide (a.1 < b.1)) = true
      rw [if_neg (by omega)]; exact decide_eq_true h
  · show (List.map _ (rowsOf (fC ck) ks)).Pairwise _
    rw [List.pairwise_map]
    exact rowsOf_pw (sorted_lex s2 (h2.nodup_iff.mpr D.nc))
  · show (List.map _ (rowsOf (fB bk) js)).Pairwise _
    rw [List.pairwise_map]
    exact rowsOf_pw (sorted_lex s3 (h3.nodup_iff.mpr nb))
  · have := rowsOf_len (fW wk) ys
    have e := h1.length_eq
    rw [List.length_map] at e
    have := D.lw
    show (rowsOf (fW wk) ys).length ≤ 100
    omega
  · have := rowsOf_len (fC ck) ks
    have e := h2.length_eq
    rw [List.length_map] at e
    have := D.lc
    show (rowsOf (fC ck) ks).length ≤ 100
    omega
  · have := rowsOf_len (fB bk) js
    have e := h3.length_eq
    rw [← D.cb, List.length_map] at e
    have := D.lc
    show (rowsOf (fB bk) js).length ≤ 100
    omega
  · intro r hr
    have h := (rowsOf_mem hr).2
    unfold fW at h
    by_cases c : 1 < wOf wk r.1
    · rw [if_pos c] at h
      rw [← Option.some.inj h]
      exact w1 _
    · rw [if_neg c] at h; cases h
  · intro r hr c hc
    obtain ⟨q, hq, rfl⟩ := List.mem_map.mp hr
    have hc : c ∈ [q.1] := hc
    rw [List.mem_singleton.mp hc]
    obtain ⟨x, _, hx⟩ := hy q hq
    exact D.uw (q.1, x) hx
  · intro r hr c hc
    obtain ⟨q, hq, rfl⟩ := List.mem_map.mp hr
    have hk := h2.mem_iff.mp (rowsOf_mem hq).1
    obtain ⟨y, hy2, e⟩ := List.mem_map.mp hk
    have u := D.uc y hy2
    rw [e] at u
    have hc : c ∈ [q.1.1, q.1.2] := hc
    rcases List.mem_cons.mp hc with z | z
    · rw [z]; exact u.1
    · rw [List.mem_singleton.mp z]; exact u.2
  · intro r hr c hc
    obtain ⟨q, hq, rfl⟩ := List.mem_map.mp hr
    have u := ub _ (h3.mem_iff.mp (rowsOf_mem hq).1)
    have hc : c ∈ [q.1.1, q.1.2] := hc
    rcases List.mem_cons.mp hc with z | z
    · rw [z]; exact u.1
    · rw [List.mem_singleton.mp z]; exact u.2
  · intro r hr
    have h := (rowsOf_mem hr).2
    show r.2 < wOf (rowsOf (fW wk) ys) r.1.1
    rw [wl]
    unfold fC at h
    by_cases c : 0 < cutOf ck r.1.1 r.1.2
    · rw [if_pos c] at h
      rw [← Option.some.inj h]
      unfold cutOf at c ⊢
      cases e : look ck (r.1.1, r.1.2) with
      | none => rw [e] at c; cases c
      | some x =>
        exact D.cw _ (look_mem e)
    · rw [if_neg c] at h; cases h
end Vf

set_option Elab.async false
set_option linter.all false
set_option maxRecDepth 100000
set_option maxHeartbeats 8000000
namespace Vf
open PySem PySem.Spec PyProof.Rows L2 TL
theorem natOf {r : Int} {n : Nat} (h0 : 0 < n) (h1 : (n : Int) < 2 → r = 0) (h2 : 2 ≤ (n : Int) → 0 ≤ r ∧ r < (n : Int)) : ∃ j : Nat, r = (j : Int) ∧ j < n := by
  by_cases c : (2 : Int) ≤ n
  · have := h2 c; exact ⟨r.toNat, by omega, by omega⟩
  · exact ⟨0, h1 (by omega), h0⟩
theorem in_keys_snoc {κ β : Type} {L : List (κ × β)} {r : κ × β} {k : κ} : k ∈ (L ++ [r]).map (·.1) ↔ k ∈ L.map (·.1) ∨ k = r.1 := by
  rw [List.map_append, List.mem_append]
  exact or_congr Iff.rfl List.mem_singleton
theorem nd_keys_snoc {κ β : Type} [DecidableEq κ] {L : List (κ × β)} {r : κ × β} (h : (L.map (·.1)).Nodup) (e : look L r.1 = none) : ((L ++ [r]).map (·.1)).Nodup := by
  rw [List.map_append]
  refine nd_snoc h fun m => ?_
  obtain ⟨x, hx⟩ := look_key m
  rw [e] at hx; cases hx
structure WkI (t : List Nat) (n : Nat) (wk : List (Nat × Nat)) : Prop where
  len : wk.length ≤ n
  nd : (wk.map (·.1)).Nodup
  w3 : ∀ r ∈ wk, 1 ≤ r.2 ∧ r.2 ≤ 3
  has : ∀ c ∈ t.take n, c ∈ wk.map (·.1)
  from_ : ∀ r ∈ wk, r.1 ∈ t
theorem WkI.old {t : List Nat} {n c : Nat} {wk : List (Nat × Nat)} (h : WkI t n wk) (hc : t[n]? = some c) (hk : c ∈ wk.map (·.1)) : WkI t (n + 1) wk :=
  ⟨Nat.le_succ_of_le h.len, h.nd, h.w3, fun x hx => by
    rw [take_succ' hc] at hx
    rcases List.mem_append.mp hx with z | z
    · exact h.has x z
    · rw [List.mem_singleton.mp z]; exact hk, h.from_⟩
theorem WkI.new {t : List Nat} {n c x : Nat} {wk : List (Nat × Nat)} (h : WkI t n wk) (hc : t[n]? = some c) (hk : look wk c = none) (hx : 1 ≤ x ∧ x ≤ 3) : WkI t (n + 1) (wk ++ [(c, x)]) :=
  ⟨by rw [List.length_append]; exact Nat.succ_le_succ h.len, nd_keys_snoc (r := (c, x)) h.nd hk, fun r hr => by
    rcases List.mem_append.mp hr with z | z
    · exact h.w3 r z
    · rw [List.mem_singleton.mp z]; exact hx, fun y hy => by
    rw [take_succ' hc] at hy
    rw [in_keys_snoc]
    rcases List.mem_append.mp hy with z | z
    · exact .inl (h.has y z)
    · exact .inr (List.mem_singleton.mp z), fun r hr => by
    rcases List.mem_append.mp hr with z | z
    · exact h.from_ r z
    · rw [List.mem_singleton.mp z]; exact List.mem_of_getElem? hc⟩
structure CkI (wk : List (Nat × Nat)) (n : Nat) (ck : List ((Nat × Nat) × Nat)) (bk : List ((Nat × Nat) × Option Nat)) : Prop where
  len : ck.length ≤ n
  nd : (ck.map (·.1)).Nodup
  cb : ck.map (·.1) = bk.map (·.1)
  cw : ∀ r ∈ ck, r.2 < wOf wk r.1.1
  uc : ∀ r ∈ ck, r.1.1 < 1114112 ∧ r.1.2 < 1114112
theorem CkI.up {wk : List (Nat × Nat)} {n : Nat} {ck : List ((Nat × Nat) × Nat)} {bk : List ((Nat × Nat) × Option Nat)} (h : CkI wk n ck bk) {m : Nat} (hm : n ≤ m) : CkI wk m ck bk := ⟨Nat.le_trans h.len hm, h.nd, h.cb, h.cw, h.uc⟩
theorem CkI.new {wk : List (Nat × Nat)} {n : Nat} {ck : List ((Nat × Nat) × Nat)} {bk : List ((Nat × Nat) × Option Nat)} (h : CkI wk n ck bk) {k : Nat × Nat} (hk : look ck k = none) {x : Nat} (hx : x < wOf wk k.1) (hu : k.1 < 1114112 ∧ k.2 < 1114112) (o : Option Nat) : CkI wk (n + 1) (ck ++ [(k, x)]) (bk ++ [(k, o)]) :=
  ⟨by rw [List.length_append]; exact Nat.succ_le_succ h.len, nd_keys_snoc (r := (k, x)) h.nd hk, by rw [List.map_append, List.map_append, h.cb]; rfl, fun r hr => by
    rcases List.mem_append.mp hr with z | z
    · exact h.cw r z
    · rw [List.mem_singleton.mp z]; exact hx, fun r hr => by
    rcases List.mem_append.mp hr with z | z
    · exact h.uc r z
    · rw [List.mem_singleton.mp z]; exact hu⟩
theorem CkI.bnone {wk : List (Nat × Nat)} {n : Nat} {ck : List ((Nat × Nat) × Nat)} {bk : List ((Nat × Nat) × Option Nat)} (h : CkI wk n ck bk) {k : Nat × Nat} (hk : look ck k = none) : look bk k = none := by
  apply look_nokey
  rw [← h.cb]
  intro m
  obtain ⟨x, hx⟩ := look_key m
  rw [hk] at hx; cases hx
theorem keepT {H : Hp} {F : Addr} {vs us : List V} (e : H F = some (.lst vs)) : ∀ a xs, H a = some (.tup xs) → upd H F (.lst us) a = some (.tup xs) := fun a xs h => by
  rw [upd_ne (fun z => by rw [z, e] at h; cases h)]; exact h
theorem rowsOf_succ {κ : Type} {f : κ → Option Nat} {l : List κ} {n : Nat} {x : κ} (h : l[n]? = some x) : rowsOf f (l.take (n + 1)) = rowsOf f (l.take n) ++ ((f x).map fun p => (x, p)).toList := fm_succ h
theorem mem_of_at' {zs : List Nat} {k c : Nat} (h : (mkS zs).cps.toList[k]? = some c) : c ∈ zs := List.mem_of_getElem? (show zs[k]? = some c from h)
theorem Kp.freeY {d l p : Addr} {H H' : Hp} (k : Kp d H H') (D : DI d l H') (n : H' p = none) : H p = none := by
  cases e : H p with
  | none => rfl
  | some o =>
    have h := k p o (D.nd n).1 e
    rw [n] at h; cases h
theorem nd_len {l m : List Nat} (h : l.Nodup) (s : ∀ x ∈ l, x ∈ m) : l.length ≤ m.length := by
  induction l generalizing m with
  | nil => exact Nat.zero_le _
  | cons a r ih =>
    have ⟨h1, h2⟩ := List.nodup_cons.mp h
    have ha := s a (List.mem_cons_self ..)
    have := ih (m := m.erase a) h2 fun x hx => (List.mem_erase_of_ne (fun z => h1 (by rw [← z]; exact hx))).mpr (s x (List.mem_cons_of_mem _ hx))
    rw [List.length_erase_of_mem ha] at this
    have hp : 0 < m.length := List.length_pos_of_mem ha
    show r.length + 1 ≤ _
    omega
theorem dw_flat : ∀ Z : List (List Nat), Z.flatten.length ≤ (Z.map fun z => z.length - 1).sum + Z.length
  | [] => Nat.le_refl _
  | z :: r => by
    have := dw_flat r
    rw [List.flatten_cons, List.length_append, List.map_cons, List.sum_cons, List.length_cons]
    omega
theorem wkV_again {k : List (Nat × Nat)} {c x y : Nat} (h : look k c = none) : putK (wkV (k ++ [(c, x)])) (Sum.inr (sg1 c)) (natV y) = wkV (k ++ [(c, y)]) := by
  unfold putK
  have e : valV (wkV (k ++ [(c, x)])) (Sum.inr (sg1 c)) = some (natV x) := by
    rw [wkV_get, look_snoc (fun q hq z => ?_), if_pos rfl]
    · rfl
    · obtain ⟨v, hv⟩ := look_key (L := k) (List.mem_map.mpr ⟨q, hq, z⟩)
      rw [h] at hv; cases hv
  rw [if_pos (by rw [valV_any, e]; rfl)]
  unfold wkV
  rw [List.map_append, List.map_append, List.map_append]
  congr 1
  · rw [List.map_map]
    apply List.map_congr_left
    intro r hr
    show (if (Sum.inr (sg1 r.1) : Key) = Sum.inr (sg1 c) then ((Sum.inr (sg1 r.1) : Key), natV y) else (Sum.inr (sg1 r.1), natV r.2)) = _
    rw [if_neg]
    intro z
    obtain ⟨v, hv⟩ := look_key (L := k) (List.mem_map.mpr ⟨r, hr, sg1_inj (Sum.inr.inj z)⟩)
    rw [h] at hv; cases hv
  · show [if (Sum.inr (sg1 c) : Key) = Sum.inr (sg1 c) then ((Sum.inr (sg1 c) : Key), natV y) else (Sum.inr (sg1 c), natV x)] = _
    rw [if_pos rfl]; rfl
def sumTo (Z : List (List Nat)) (i : Nat) : Nat := ((Z.take i).map fun z => z.length - 1).sum
theorem sumTo_succ {Z : List (List Nat)} {i : Nat} {z : List Nat} (h : Z[i]? = some z) : sumTo Z (i + 1) = sumTo Z i + (z.length - 1) := by
  unfold sumTo
  rw [take_succ' h, List.map_append, List.sum_append]; rfl
theorem sumTo_le {Z : List (List Nat)} {i : Nat} : sumTo Z i ≤ (Z.map fun z => z.length - 1).sum := by
  have e := List.take_append_drop i Z
  have : ((Z.take i ++ Z.drop i).map fun z => z.length - 1).sum = (Z.map fun z => z.length - 1).sum := by rw [e]
  rw [List.map_append, List.sum_append] at this
  unfold sumTo
  omega
section
variable {P : Program} {w : World} {K : PySem.W.Frag} {mg : Str → Option Value} {base : Heap}
def PrS (H : Hp) (v : V) : Prop := ∃ (a p : Addr) (x1 x2 x3 x4 x5 x6 : V) (ps : List Nat), v = .ref a ∧ H a = some (.tup [x1, x2, x3, x4, x5, x6, .ref p]) ∧ H p = some (.tup (ps.map natV)) ∧ ps.length = 5 ∧ ∀ x ∈ ps, x ≤ 999
def spStyleN : Sp := fun vs H Q _ => ∃ (d l wl : Addr) (Z : List (List Nat)), vs = [.ref d, .ref wl] ∧ DI d l H ∧ wl ≠ d ∧ H wl = some (.lst (Z.map sV)) ∧ DwOk Z ∧ ∀ H' v S, Kp d H H' → DI d l H' → StyV H' v S → PrS H' v → StyOk S → Q v H'
theorem ok_style_n (T : Txt K mg) : FnOk P w K mg base CX0 3 T.a_law_style_for T.d_law_style_for ["_law_d", "_law_words"] spStyleN := by
  have G_law_draw : FnOk P w K mg base CX0 1 T.a_law_draw T.d_law_draw ["_law_d", "_law_many"] spDraw := ok_draw T
  have G_law_pick : FnOk P w K mg base CX0 2 T.a_law_pick T.d_law_pick ["_law_d", "_law_row"] (spPick K) := ok_pick T
  refine T.D_law_style_for.F.ok sc_law_style_for (fun vs H Q E h => ?_) (fun cdv A outer s H vs Q E hr h => ?_)
  · obtain ⟨d, l, wl, Z, rfl, _⟩ := h
    rfl
  · obtain ⟨d, l, wl, Z, rfl, hD, nwl, eW, hZ, q⟩ := h
    refine ⟨_, (pss_cons (ps_set (i := 2) sc_law_style_for.nd rfl (.inl rfl) (pe_cmpR op_eq (pe_call G_law_draw (hr.mono (by decide)) (by rfl) T.D_law_draw.G T.D_law_draw.F.kp T.D_law_draw.B .nil pass0 (pa_cons (pv 0) (pa_cons pe_int pa_nil))) pe_int (nomark _)))
      (pss_cons (ps_set (i := 3) sc_law_style_for.nd rfl (.inr rfl) pe_dnewK)
      (pss_cons (ps_for PassesOwn.never rfl (pi_str (pe_op op_add_str (pe_join pe_str (pv 1)) pe_str)) (pg_name (i := 4) sc_law_style_for.nd rfl (.inl rfl)) (pss_one (ps_if (pt_cmp (pc_dnotin (hu1 hr) (pv 4) (pv 3))) (pss_cons (ps_dput (hu1 hr) (pv 3) (pv 4) (pe_op op_add pe_int (pe_call G_law_draw (hr.mono (by decide)) (by rfl) T.D_law_draw.G T.D_law_draw.F.kp T.D_law_draw.B .nil pass0 (pa_cons (pv 0) (pa_cons pe_int pa_nil)))) rfl)
      (pss_one (ps_if (pt_val (pv 2)) (pss_one (ps_dput (hu1 hr) (pv 3) (pv 4) (pe_ifExp (pt_cmpR op_in_sign (pv 4) pe_str (by rfl)) pe_int pe_int) rfl)) pss_nil))) pss_nil)))
      (pss_cons (ps_set (i := 5) sc_law_style_for.nd rfl (.inr rfl) pe_dnewT)
      (pss_cons (ps_set (i := 6) sc_law_style_for.nd rfl (.inr rfl) pe_dnewT)
      (pss_cons (ps_set (i := 7) sc_law_style_for.nd rfl (.inl rfl) (pe_call G_law_pick (hr.mono (by decide)) (by rfl) T.D_law_pick.G T.D_law_pick.F.kp T.D_law_pick.B .nil pass0 (pa_cons (pv 0) (pa_cons (pe_lst (pa_cons (pe_lst (pa_cons pe_non (pa_cons pe_int (pa_cons pe_int (pa_cons pe_int pa_nil))))) (pa_cons (pe_lst (pa_cons pe_non (pa_cons pe_int (pa_cons pe_int (pa_cons pe_int pa_nil))))) (pa_cons (pe_lst (pa_cons pe_non (pa_cons pe_int (pa_cons pe_int (pa_cons pe_int pa_nil))))) (pa_cons (pe_lst (pa_cons pe_non (pa_cons pe_int (pa_cons pe_int (pa_cons pe_int pa_nil))))) pa_nil))))) pa_nil))))
      (pss_cons (ps_for PassesOwn.never rfl (pi_list (pv 1)) (pg_name (i := 8) sc_law_style_for.nd rfl (.inl rfl)) (pss_one (ps_for PassesOwn.never rfl (pi_range2 (by rfl) T.n_range (pa_cons pe_int (pa_cons (pe_callB call_len_str (by rfl) T.n_len PySem.boot_len (pa_cons (pv 8) pa_nil)) pa_nil))) (pg_name (i := 9) sc_law_style_for.nd rfl (.inl rfl)) (pss_cons (ps_set (i := 10) sc_law_style_for.nd rfl (.inl rfl) (pe_tup (pa_cons (pe_ix ix_str (pv 8) (pe_op op_sub (pv 9) pe_int) (fun _ _ => rfl)) (pa_cons (pe_ix ix_str (pv 8) (pv 9) (fun _ _ => rfl)) pa_nil))))
      (pss_one (ps_if (pt_cmp (pc_dnotin (hu1 hr) (pv 10) (pv 5))) (pss_cons (ps_dput (hu1 hr) (pv 5) (pv 10) (pe_ifExp (pt_val (pv 2)) (pe_op op_sub (pe_dget (hu1 hr) (pv 3) (pe_ix ix_str (pv 8) (pe_op op_sub (pv 9) pe_int) (fun _ _ => rfl)) (fun _ _ => rfl)) pe_int) (pe_call G_law_draw (hr.mono (by decide)) (by rfl) T.D_law_draw.G T.D_law_draw.F.kp T.D_law_draw.B .nil pass0 (pa_cons (pv 0) (pa_cons (pe_dget (hu1 hr) (pv 3) (pe_ix ix_str (pv 8) (pe_op op_sub (pv 9) pe_int) (fun _ _ => rfl)) (fun _ _ => rfl)) pa_nil)))) rfl)
      (pss_cons (ps_dput (hu1 hr) (pv 6) (pv 10) pe_non rfl)
      (pss_one (ps_if (PW.pt (pw_and (pt_val (pe_bm0 PySem.F.plainAttrs_str PySem.F.slot_str_islower PySem.F.type_str_islower mt_islower (pe_slice sl_str (pv 8) (po_some (pe_op op_sub (pv 9) pe_int)) (po_some (pe_op op_add (pv 9) pe_int))))) (pw_and1 (pt_val (pe_bm0 PySem.F.plainAttrs_str PySem.F.slot_str_isalpha PySem.F.type_str_isalpha mt_isalpha (pe_slice sl_str (pv 8) (po_some (pe_op op_sub (pv 9) pe_int)) (po_some (pe_op op_add (pv 9) pe_int)))))))) (pss_one (ps_dput (hu1 hr) (pv 6) (pv 10) (pe_call G_law_pick (hr.mono (by decide)) (by rfl) T.D_law_pick.G T.D_law_pick.F.kp T.D_law_pick.B .nil pass0 (pa_cons (pv 0) (pa_cons (pv 7) pa_nil))) rfl)) pss_nil)))) pss_nil))))))
      (pss_cons (ps_setLc (i := 11) (own := [("_law_sign", 4)]) (g := gName 4) rfl sc_law_style_for.nd rfl rfl (sw_true rfl rfl rfl (by decide +kernel)) (pi_list (pe_callB (call_sortedD (by rfl)) (by rfl) T.n_sorted (by decide +kernel) (pa_cons (pv 3) pa_nil))) (blkOk_by (own := [("_law_sign", 4)]) (N := ["_law_d", "_law_words", "_law_steep", "_law_wide", "_law_sign", "_law_cuts", "_law_breaks", "_law_dear", "_law_word", "_law_k", "_law_pair", "_law_widths", "_law_cut_rows", "_law_break_rows", "_law_prices"]) (sc := (defScope s_law_style_for)) (by decide +kernel)) (fun _ _ _ _ _ => (pg_name (i := 4) sc_law_style_for.nd rfl (.inl rfl))) (fun _ _ _ _ _ => (pts_one (pt_cmpR op_gt (pe_dget (hu1 hr) (pv 3) (pv 4) (fun _ _ => rfl)) pe_int (nomark _)))) (fun _ _ _ _ _ => (pe_tup (pa_cons (pv 4) (pa_cons (pe_dget (hu1 hr) (pv 3) (pv 4) (fun _ _ => rfl)) pa_nil)))))
      (pss_cons (ps_setLc (i := 12) (own := [("_law_pair", 10)]) (g := gName 10) rfl sc_law_style_for.nd rfl rfl (sw_true rfl rfl rfl (by decide +kernel)) (pi_list (pe_callB (call_sortedDS (by rfl)) (by rfl) T.n_sorted (by decide +kernel) (pa_cons (pv 5) pa_nil))) (blkOk_by (own := [("_law_pair", 10)]) (N := ["_law_d", "_law_words", "_law_steep", "_law_wide", "_law_sign", "_law_cuts", "_law_breaks", "_law_dear", "_law_word", "_law_k", "_law_pair", "_law_widths", "_law_cut_rows", "_law_break_rows", "_law_prices"]) (sc := (defScope s_law_style_for)) (by decide +kernel)) (fun _ _ _ _ _ => (pg_name (i := 10) sc_law_style_for.nd rfl (.inl rfl))) (fun _ _ _ _ _ => (pts_one (pt_cmpR op_gt (pe_dget (hu1 hr) (pv 5) (pv 10) (fun _ _ => rfl)) pe_int (nomark _)))) (fun _ _ _ _ _ => (pe_op (r := rCatA K) op_catA (pv 10) (pe_tup (pa_cons (pe_dget (hu1 hr) (pv 5) (pv 10) (fun _ _ => rfl)) pa_nil)))))
      (pss_cons (ps_setLc (i := 13) (own := [("_law_pair", 10)]) (g := gName 10) rfl sc_law_style_for.nd rfl rfl (sw_true rfl rfl rfl (by decide +kernel)) (pi_list (pe_callB (call_sortedDS (by rfl)) (by rfl) T.n_sorted (by decide +kernel) (pa_cons (pv 6) pa_nil))) (blkOk_by (own := [("_law_pair", 10)]) (N := ["_law_d", "_law_words", "_law_steep", "_law_wide", "_law_sign", "_law_cuts", "_law_breaks", "_law_dear", "_law_word", "_law_k", "_law_pair", "_law_widths", "_law_cut_rows", "_law_break_rows", "_law_prices"]) (sc := (defScope s_law_style_for)) (by decide +kernel)) (fun _ _ _ _ _ => (pg_name (i := 10) sc_law_style_for.nd rfl (.inl rfl))) (fun _ _ _ _ _ => (pts_one (pt_cmpR op_notN (pe_dget (hu1 hr) (pv 6) (pv 10) (fun _ _ => rfl)) pe_non (nomark _)))) (fun _ _ _ _ _ => (pe_op (r := rCatA K) op_catA (pv 10) (pe_tup (pa_cons (pe_dget (hu1 hr) (pv 6) (pv 10) (fun _ _ => rfl)) pa_nil)))))
      (pss_cons (ps_set (i := 14) sc_law_style_for.nd rfl (.inl rfl) (pe_callTy call_tuple_of (by rfl) T.n_tuple (by decide +kernel) (pa_cons (pe_lc (own := [("_law_k", 9)]) (g := gName 9) (tt := tYes) rfl sc_law_style_for.nd (pi_range1 (by rfl) T.n_range (pa_cons pe_int pa_nil)) (blkOk_by (own := [("_law_k", 9)]) (N := ["_law_d", "_law_words", "_law_steep", "_law_wide", "_law_sign", "_law_cuts", "_law_breaks", "_law_dear", "_law_word", "_law_k", "_law_pair", "_law_widths", "_law_cut_rows", "_law_break_rows", "_law_prices"]) (sc := (defScope s_law_style_for)) (by decide +kernel)) (fun _ _ _ _ _ => (pg_name (i := 9) sc_law_style_for.nd rfl (.inl rfl))) (fun _ _ _ _ _ => pts_nil) (fun _ _ _ _ _ => (pe_call G_law_pick (hr.mono (by decide)) (by rfl) T.D_law_pick.G T.D_law_pick.F.kp T.D_law_pick.B .nil pass0 (pa_cons (pv 0) (pa_cons (pe_lst (pa_cons pe_int (pa_cons pe_int (pa_cons pe_int (pa_cons pe_int (pa_cons pe_int pa_nil)))))) pa_nil))))) pa_nil)))
      (pss_one (ps_ret (pe_tup (pa_cons (pe_op op_add pe_int (pe_call G_law_draw (hr.mono (by decide)) (by rfl) T.D_law_draw.G T.D_law_draw.F.kp T.D_law_draw.B .nil pass0 (pa_cons (pv 0) (pa_cons pe_int pa_nil)))) (pa_cons (pe_op op_add pe_int (pe_call G_law_draw (hr.mono (by decide)) (by rfl) T.D_law_draw.G T.D_law_draw.F.kp T.D_law_draw.B .nil pass0 (pa_cons (pv 0) (pa_cons pe_int pa_nil)))) (pa_cons (pe_op op_add pe_int (pe_call G_law_draw (hr.mono (by decide)) (by rfl) T.D_law_draw.G T.D_law_draw.F.kp T.D_law_draw.B .nil pass0 (pa_cons (pv 0) (pa_cons pe_int pa_nil)))) (pa_cons (pe_callTy call_tuple_of (by rfl) T.n_tuple (by decide +kernel) (pa_cons (pv 11) pa_nil)) (pa_cons (pe_callTy call_tuple_of (by rfl) T.n_tuple (by decide +kernel) (pa_cons (pv 12) pa_nil)) (pa_cons (pe_callTy call_tuple_of (by rfl) T.n_tuple (by decide +kernel) (pa_cons (pv 13) pa_nil)) (pa_cons (pv 14) pa_nil))))))))))))))))))))), ?_⟩
    refine ⟨_, rfl, d, l, 3, rfl, hD, by decide, fun H0 r0 K0 D0 _ _ => ?_⟩
    refine ⟨rfl, ?_⟩
    generalize decide (V.int r0 = V.int 1) = st
    refine fun W nW => ?_
    have ndW := D0.nd nW
    have eW0 := K0 _ _ nwl eW
    have wlW : wl ≠ W := fun z => by rw [z, nW] at eW0; cases eW0
    have nWH := K0.freeY D0 nW
    obtain ⟨t, ht⟩ : ∃ t, t = Z.flatten ++ [42, 48, 122] := ⟨_, rfl⟩
    have fl90 : Z.flatten.length ≤ 90 := by have := dw_flat Z; have := hZ.sm; have := hZ.ln; omega
    have lt93 : t.length ≤ 93 := by rw [ht, List.length_append]; show _ + 3 ≤ _; omega
    have ta : ∀ c ∈ t, c ∈ alpL := by
      intro c hc
      rw [ht] at hc
      rcases List.mem_append.mp hc with z | z
      · obtain ⟨y, hy, hcy⟩ := List.mem_flatten.mp z
        exact hZ.al y hy c hcy
      · exact (show ∀ c ∈ [42, 48, 122], c ∈ alpL by decide +kernel) c z
    have tu : ∀ c ∈ t, c < 1114112 := fun c hc => (alp_ok c (ta c hc)).1
    have tw : ∀ z ∈ Z, ∀ c ∈ z, c ∈ t := fun z hz c hc => by
      rw [ht]
      exact List.mem_append_left _ (List.mem_flatten.mpr ⟨z, hz, hc⟩)
    have K1 := K0.new (o := .dK []) nW
    have D1 := D0.new (o := .dK []) nW
    have ej : Txt.join ("" : Str) (Z.map mkS) = mkS Z.flatten := join_mk Z
    have e0 : (("" : Str)).length = 0 := by rw [empty_mk, mkS_len]; rfl
    have e3 : (("*0z" : Str)) = mkS [42, 48, 122] := by decide +kernel
    refine ⟨⟨_, rfl⟩, _, rfl, _, wl, Z.map mkS, rfl, rfl, .inl (SqL.of (by rw [upd_ne wlW, ← map_sV]; exact eW0)), ?_, _, _, rfl, rfl, ?_, ?_⟩
    · rw [sum_len, e0]; omega
    · rw [ej, e3, mkS_len, mkS_len]; exact big_ok (by show _ + 3 ≤ _; omega)
    rw [ej, e3, mkS_app, ← ht]
    refine ⟨_, rfl, for_it walk_str (fun n σ' H' => ∃ (x3 : Option V) (wk : List (Nat × Nat)), σ' = [some (.ref d), some (.ref wl), some (.bl st), some (.ref W), x3, none, none, none, none, none, none, none, none, none, none] ∧ Kp d H H' ∧ DI d l H' ∧ H' W = some (.dK (wkV wk)) ∧ WkI t n wk)
      ⟨none, [], rfl, K1, D1, upd_same, Nat.le_refl _, .nil, (fun _ h => nomatch h), (fun _ h => by simp at h), (fun _ h => nomatch h)⟩ (fun _ _ _ _ _ => trivial) ?_ ?_⟩
    · rintro n x σ' H1 H2 hn ⟨x3, wk, rfl, K2, D2, e1, hw⟩ ⟨rfl, c, hc, rfl⟩
      have hc : t[n]? = some c := by rw [← Array.getElem?_toList] at hc; exact hc
      have hn : n < t.length := (List.getElem?_eq_some_iff.mp hc).1
      have g : DGet H2 W (sgn c) ((look wk c).map natV) := by rw [← wkV_get]; exact DGet.k (k := Sum.inr (sg1 c)) e1
      refine ⟨_, rfl, _, rfl, W, _, rfl, g, ?_⟩
      cases e : look wk c with
      | some x =>
        refine ⟨false, rfl, some (sgn c), wk, rfl, K2, D2, e1, hw.old hc ?_⟩
        exact List.mem_map.mpr ⟨_, look_mem e, rfl⟩
      | none =>
        refine ⟨true, rfl, ?_⟩
        refine ⟨_, rfl, d, l, _, rfl, D2, by decide, fun H3 r K3 D3 _ r2 => ?_⟩
        have r2 := r2 (by decide)
        obtain ⟨x, hx⟩ : ∃ x : Nat, (1 : Int) + r = (x : Int) := ⟨(1 + r).toNat, by omega⟩
        have e3 := K3 _ _ ndW.1 e1
        have szw : ∀ y, (wkV (wk ++ [(c, y)])).length < sizeLine := fun y => by
          unfold wkV
          rw [List.length_map, List.length_append]; have := hw.len; exact lt_s (by show _ + 1 < _; omega)
        refine ⟨_, _, rfl, rfl, _, rfl, _, rfl, W, _, rfl, DPut.k (k := Sum.inr (sg1 c)) e3 ?_, ?_⟩
        · unfold wkV
          rw [List.length_map]; have := hw.len; exact lt_s (by omega)
        have K4 := (K2.trans K3).mut (o := .dK (putK (wkV wk) (Sum.inr (sg1 c)) (V.int (1 + r)))) nWH
        have D4 := D3.at (o := .dK (putK (wkV wk) (Sum.inr (sg1 c)) (V.int (1 + r)))) ndW.1 ndW.2
        have e4 : upd H3 W (.dK (putK (wkV wk) (Sum.inr (sg1 c)) (V.int (1 + r)))) W = some (.dK (wkV (wk ++ [(c, x)]))) := by
          rw [upd_same, ← wkV_put e]
          show some (HO.dK (putK (wkV wk) (Sum.inr (sg1 c)) (V.int (1 + r)))) = _
          rw [hx]; rfl
        generalize upd H3 W (.dK (putK (wkV wk) (Sum.inr (sg1 c)) (V.int (1 + r)))) = H4 at K4 D4 e4
        refine ⟨_, rfl, st, rfl, ?_⟩
        cases st with
        | false => exact ⟨some (sgn c), wk ++ [(c, x)], rfl, K4, D4, e4, hw.new hc e (by omega)⟩
        | true =>
          have fin : ∀ y : Nat, 1 ≤ y ∧ y ≤ 3 → ∃ kvs, H4 W = some (.dK kvs) ∧ kvs.length < sizeLine ∧ Kp d H (upd H4 W (.dK (putK kvs (Sum.inr (sg1 c)) (natV y)))) ∧ DI d l (upd H4 W (.dK (putK kvs (Sum.inr (sg1 c)) (natV y)))) ∧ upd H4 W (.dK (putK kvs (Sum.inr (sg1 c)) (natV y))) W = some (.dK (wkV (wk ++ [(c, y)]))) ∧ WkI t (n + 1) (wk ++ [(c, y)]) := fun y hy =>
            ⟨_, e4, szw x, K4.mut nWH, D4.at ndW.1 ndW.2, by rw [upd_same, wkV_again e], hw.new hc e hy⟩
          refine ⟨_, rfl, c, _, rfl, rfl, _, rfl, ?_⟩
          refine ite2 (fun c9 => ?_) (fun c9 => ?_)
          · obtain ⟨kvs, f1, f2, f3, f4, f5, f6⟩ := fin 3 (by decide)
            exact ⟨_, rfl, _, rfl, W, _, rfl, DPut.k (k := Sum.inr (sg1 c)) f1 f2, some (sgn c), wk ++ [(c, 3)], rfl, f3, f4, f5, f6⟩
          · obtain ⟨kvs, f1, f2, f3, f4, f5, f6⟩ := fin 1 (by decide)
            exact ⟨_, rfl, _, rfl, W, _, rfl, DPut.k (k := Sum.inr (sg1 c)) f1 f2, some (sgn c), wk ++ [(c, 1)], rfl, f3, f4, f5, f6⟩
    · rintro σ' H1 ⟨x3, wk, rfl, K1, D1, e1, hw⟩
      have hw : WkI t t.length wk := hw
      have l52 : wk.length ≤ 52 := by
        have := nd_len hw.nd (m := alpL) fun x hx => by
          obtain ⟨r, hr, rfl⟩ := List.mem_map.mp hx
          exact ta _ (hw.from_ r hr)
        rw [List.length_map] at this
        exact Nat.le_trans this (show alpL.length ≤ 52 by decide +kernel)
      have hasW : ∀ z ∈ Z, ∀ c ∈ z, ∃ x, look wk c = some x ∧ 1 ≤ x ∧ x ≤ 3 := fun z hz c hc => by
        obtain ⟨x, hx⟩ := look_key (hw.has c (by rw [List.take_length]; exact tw z hz c hc))
        exact ⟨x, hx, hw.w3 _ (look_mem hx)⟩
      refine fun C nC => ?_
      have ndC := D1.nd nC
      have nC0 := K1.freeY D1 nC
      have hCW : C ≠ W := fun z => by rw [z, e1] at nC; cases nC
      have K2 := K1.new (o := .dT []) nC
      have D2 := D1.new (o := .dT []) nC
      refine fun B nB => ?_
      have ndB := D2.nd nB
      have nB0 := K2.freeY D2 nB
      have hBC : B ≠ C := fun z => by rw [z, upd_same] at nB; cases nB
      have hBW : B ≠ W := fun z => by rw [z, upd_ne hCW.symm, e1] at nB; cases nB
      have K3 := K2.new (o := .dT []) nB
      have D3 := D2.new (o := .dT []) nB
      have eW3 : upd (upd H1 C (.dT [])) B (.dT []) W = some (.dK (wkV wk)) := by rw [upd_ne hBW.symm, upd_ne hCW.symm]; exact e1
      have eC3 : upd (upd H1 C (.dT [])) B (.dT []) C = some (.dT (ckV [])) := by rw [upd_ne hBC.symm, upd_same]; rfl
      have eB3 : upd (upd H1 C (.dT [])) B (.dT []) B = some (.dT (bkV [])) := by rw [upd_same]; rfl
      have keepW : ∀ {H' : Hp}, Kp d H H' → H' wl = some (.lst (Z.map sV)) := fun k => k _ _ nwl eW
      generalize upd (upd H1 C (.dT [])) B (.dT []) = H3 at K3 D3 eW3 eC3 eB3
      have sz4 : ∀ xs : List V, xs.length ≤ 10 → xs.length ≤ sizeLine := fun xs h => Nat.le_of_lt (lt_s (by omega))
      refine ⟨_, rfl, ?_⟩
      refine ⟨sz4 _ (by simp), fun p1 np1 => ?_⟩
      refine ⟨sz4 _ (by simp), fun p2 np2 => ?_⟩
      refine ⟨sz4 _ (by simp), fun p3 np3 => ?_⟩
      refine ⟨sz4 _ (by simp), fun p4 np4 => ?_⟩
      refine ⟨sz4 _ (by simp), fun p5 np5 => ?_⟩
      have s1 := same_upd (o := .lst [V.non, V.int 0, V.int 0, V.int 0]) (Same.refl H3) np1
      have s2 := same_upd (o := .lst [V.non, V.int 0, V.int 1, V.int 4]) (Same.refl _) np2
      have s3 := same_upd (o := .lst [V.non, V.int 0, V.int 20, V.int 999]) (Same.refl _) np3
      have s4 := same_upd (o := .lst [V.non, V.int 2, V.int 30, V.int 100]) (Same.refl _) np4
      have s5 := same_upd (o := .lst [V.ref p1, V.ref p2, V.ref p3, V.ref p4]) (Same.refl _) np5
      have s25 := s2.trans (s3.trans (s4.trans s5))
      have s35 := s3.trans (s4.trans s5)
      have s45 := s4.trans s5
      have s15 := s1.trans s25
      have q1 := s25 _ _ upd_same
      have q2 := s35 _ _ upd_same
      have q3 := s45 _ _ upd_same
      have q4 := s5 _ _ upd_same
      have n1 := (D3.nd np1).1
      have n2 := ((D3.keep s1).nd np2).1
      have n3 := ((D3.keep (s1.trans s2)).nd np3).1
      have n4 := ((D3.keep (s1.trans (s2.trans s3))).nd np4).1
      have n5 := ((D3.keep (s1.trans (s2.trans (s3.trans s4)))).nd np5).1
      have D5 := D3.keep s15
      refine ⟨d, l, _, _, rfl, D5, .inl ⟨p5, rfl, n5, SqL.of upd_same⟩, by simp, by simp, fun H4 v K4 D4 hv => ?_⟩
      obtain ⟨DR, ds, rfl, nDR, eD4, ds0, ds1, hds⟩ : ∃ (DR : Addr) (ds : List V), v = .ref DR ∧ DR ≠ d ∧ H4 DR = some (.lst ds) ∧ 0 < ds.length ∧ ds.length ≤ 1000 ∧ ∀ u ∈ ds, ∃ o : Option Nat, u = prV o := by
        have pr : ∀ a b c : Nat, ∀ u ∈ [V.non, V.int (a : Int), V.int (b : Int), V.int (c : Int)], ∃ o : Option Nat, u = prV o := by
          intro a b c u hu
          simp only [List.mem_cons, List.not_mem_nil, or_false] at hu
          rcases hu with rfl | rfl | rfl | rfl
          · exact ⟨none, rfl⟩
          · exact ⟨some a, rfl⟩
          · exact ⟨some b, rfl⟩
          · exact ⟨some c, rfl⟩
        simp only [List.mem_cons, List.not_mem_nil, or_false] at hv
        rcases hv with rfl | rfl | rfl | rfl
        · exact ⟨p1, _, rfl, n1, K4 _ _ n1 q1, by simp, by simp, pr 0 0 0⟩
        · exact ⟨p2, _, rfl, n2, K4 _ _ n2 q2, by simp, by simp, pr 0 1 4⟩
        · exact ⟨p3, _, rfl, n3, K4 _ _ n3 q3, by simp, by simp, pr 0 20 999⟩
        · exact ⟨p4, _, rfl, n4, K4 _ _ n4 q4, by simp, by simp, pr 2 30 100⟩
      have K34 : Kp d H3 H4 := (show Kp d H3 _ from fun b o _ e => s15 b o e).trans K4
      have eW4 := K34 _ _ ndW.1 eW3
      have eC4 := K34 _ _ ndC.1 eC3
      have eB4 := K34 _ _ ndB.1 eB3
      have K4 := K3.trans K34
      have hDC : DR ≠ C := fun z => by rw [z, eC4] at eD4; cases eD4
      have hDB : DR ≠ B := fun z => by rw [z, eB4] at eD4; cases eD4
      clear hv q1 q2 q3 q4 s1 s2 s3 s4 s5 s25 s35 s45 s15 n1 n2 n3 n4 n5 D5
      refine ⟨_, rfl, wl, rfl, ⟨_, SqL.of (keepW K4)⟩, ?_⟩
      refine for_it (walk_list (K := K) (a := wl) (xs := Z.map sV)) (fun i σ' H' => ∃ (x6 x7 x8 : Option V) (ck : List ((Nat × Nat) × Nat)) (bk : List ((Nat × Nat) × Option Nat)), σ' = [some (.ref d), some (.ref wl), some (.bl st), some (.ref W), x3, some (.ref C), some (.ref B), some (.ref DR), x6, x7, x8, none, none, none, none] ∧ Kp d H H' ∧ DI d l H' ∧ H' W = some (.dK (wkV wk)) ∧ H' C = some (.dT (ckV ck)) ∧ H' B = some (.dT (bkV bk)) ∧ H' DR = some (.lst ds) ∧ CkI wk (sumTo Z i) ck bk)
        ⟨none, none, none, [], [], rfl, K4, D4, eW4, eC4, eB4, eD4, Nat.zero_le _, .nil, rfl, (fun _ h => nomatch h), (fun _ h => nomatch h)⟩ ?_ ?_ ?_
      · rintro i σ' H' _ ⟨_, _, _, _, _, _, k, _⟩
        exact SqL.of (keepW k)
      · rintro i x σ' H5 H6 hi ⟨x6, x7, x8, ck, bk, rfl, K5, D5, eW5, eC5, eB5, eD5, hc⟩ ⟨rfl, hx⟩
        obtain ⟨zs, hzi, rfl⟩ := map_at2 hx
        have hzm : zs ∈ Z := List.mem_of_getElem? hzi
        have wd := hZ.wd zs hzm
        have hzs := hasW zs hzm
        have ss := sumTo_succ hzi
        have s60 : sumTo Z (i + 1) ≤ 60 := Nat.le_trans sumTo_le hZ.sm
        have hb : (mkS zs).length ≤ sizeLine := by rw [mkS_len]; exact big_ok (by have := wd.len; omega)
        have hl := wd.len
        have h1l := hZ.ne zs hzm
        refine ⟨_, rfl, mkS zs, rfl, hb, 1, _, rfl, ⟨by decide, by decide, by rw [mkS_len]; omega, by rw [mkS_len]; omega⟩, ?_⟩
        have en : (((mkS zs).length : Int) - 1).toNat = zs.length - 1 := by rw [mkS_len]; omega
        rw [en]
        refine for_it walk_range (fun m σ' H' => ∃ (x7 x8 : Option V) (ck : List ((Nat × Nat) × Nat)) (bk : List ((Nat × Nat) × Option Nat)), σ' = [some (.ref d), some (.ref wl), some (.bl st), some (.ref W), x3, some (.ref C), some (.ref B), some (.ref DR), some (sV zs), x7, x8, none, none, none, none] ∧ Kp d H H' ∧ DI d l H' ∧ H' W = some (.dK (wkV wk)) ∧ H' C = some (.dT (ckV ck)) ∧ H' B = some (.dT (bkV bk)) ∧ H' DR = some (.lst ds) ∧ CkI wk (sumTo Z i + m) ck bk)
          ⟨x7, x8, ck, bk, rfl, K5, D5, eW5, eC5, eB5, eD5, hc⟩ (fun _ _ _ _ _ => trivial) ?_ ?_
        · rintro m x σ' H5 H6 hm ⟨x7, x8, ck, bk, rfl, K5, D5, eW5, eC5, eB5, eD5, hc⟩ ⟨rfl, hx⟩
          have hx : x = .int ((m + 1 : Nat) : Int) := by
            rw [hx]
            show V.int (1 + (m : Int)) = _
            rw [show 1 + (m : Int) = ((m + 1 : Nat) : Int) by omega]
          subst hx
          have ea : ((m + 1 : Nat) : Int) - 1 = (m : Int) := by omega
          have g1 := wd.at (show m < zs.length by omega)
          have g2 := wd.at (show m + 1 < zs.length by omega)
          refine ⟨_, rfl, _, rfl, _, _, rfl, rfl, mkS zs, _, _, rfl, rfl, hb, by rw [ea]; exact atI_nat g1.1, ?_⟩
          refine ⟨_, rfl, _, rfl, mkS zs, _, _, rfl, rfl, hb, atI_nat g2.1, Nat.le_of_lt (lt_s (by show _ < 100000; simp)), fun p np => ?_⟩
          obtain ⟨k, hk⟩ : ∃ k : Nat × Nat, k = (zs.getD m 0, zs.getD (m + 1) 0) := ⟨_, rfl⟩
          have kp := same_upd (o := .tup [sgn (zs.getD m 0), sgn (zs.getD (m + 1) 0)]) (Same.refl H6) np
          generalize hH7 : upd H6 p (.tup [V.str ⟨#[zs.getD m 0]⟩, V.str ⟨#[zs.getD (m + 1) 0]⟩]) = H7
          have kp : Same H6 H7 := by rw [← hH7]; exact kp
          have ep : H7 p = some (.tup ((kk2 k).map kV)) := by rw [← hH7, upd_same, hk]; rfl
          have K7 : Kp d H H7 := by rw [← hH7]; exact K5.new np
          have D7 : DI d l H7 := by rw [← hH7]; exact D5.new np
          have g : DGet H7 C (.ref p) ((look ck k).map natV) := by rw [← ckV_get]; exact DGet.t (kp _ _ eC5) ep
          refine ⟨_, rfl, _, rfl, C, _, rfl, g, ?_⟩
          have pd : p ≠ d := (D5.nd np).1
          have pC : p ≠ C := fun z => by rw [z, eC5] at np; cases np
          have pB : p ≠ B := fun z => by rw [z, eB5] at np; cases np
          cases e : look ck k with
          | some x =>
            exact ⟨false, rfl, some (.int ((m + 1 : Nat) : Int)), some (.ref p), ck, bk, rfl, K7, D7, kp _ _ eW5, kp _ _ eC5, kp _ _ eB5, kp _ _ eD5, hc.up (by omega)⟩
          | none =>
            obtain ⟨x, hx, x1, x3b⟩ := hzs (zs.getD m 0) (mem_of_at' g1.1)
            have gw : DGet H7 W (sgn (zs.getD m 0)) (some (natV x)) := by
              have := DGet.k (k := Sum.inr (sg1 (zs.getD m 0))) (kp _ _ eW5)
              rw [wkV_get, hx] at this
              exact this
            refine ⟨true, rfl, ?_⟩
            refine ⟨_, rfl, st, rfl, ?_⟩
            refine ite2 (fun cs => ?_) (fun cs => ?_)
            · refine ⟨_, rfl, _, rfl, _, rfl, _, _, rfl, rfl, mkS zs, _, _, rfl, rfl, hb, by rw [ea]; exact atI_nat g1.1, W, natV x, rfl, gw, _, _, rfl, rfl, ?_⟩
              obtain ⟨j, hj0, hj⟩ : ∃ j : Nat, (x : Int) - 1 = (j : Int) ∧ j < x := ⟨x - 1, by omega, by omega⟩
              obtain ⟨H8, hH8⟩ : ∃ H8, H8 = H7 := ⟨_, rfl⟩
              have K8 : Kp d H7 H8 := by rw [hH8]; exact Kp.refl d H7
              have D8 : DI d l H8 := by rw [hH8]; exact D7
              rw [← hH8]
              have dp : ∀ Hn, DPut H8 C (.ref p) (V.int (j : Int)) Hn → DPut H8 C (.ref p) (V.int ((x : Int) - 1)) Hn := fun Hn h => by rw [hj0]; exact h
              have hjw : j < wOf wk k.1 := by
                rw [hk]; unfold wOf
                show j < (look wk (zs.getD m 0)).getD 1
                rw [hx]; exact hj
              have eC8 := K8 _ _ ndC.1 (kp _ _ eC5)
              have eB8 := K8 _ _ ndB.1 (kp _ _ eB5)
              have eW8 := K8 _ _ ndW.1 (kp _ _ eW5)
              have ep8 := K8 _ _ pd ep
              have eD8 := K8 _ _ nDR (kp _ _ eD5)
              have KK := K7.trans K8
              refine ⟨_, rfl, _, rfl, C, _, rfl, dp _ (DPut.t eC8 ep8 ?_), ?_⟩
              · unfold ckV
                rw [List.length_map]; have := hc.len; exact lt_s (by omega)
              have ec : putK (ckV ck) (kk2 k) (natV j) = ckV (ck ++ [(k, j)]) := ckV_put e
              have K9 := KK.mut (o := .dT (putK (ckV ck) (kk2 k) (V.int (j : Int)))) nC0
              have D9 := D8.at (o := .dT (putK (ckV ck) (kk2 k) (V.int (j : Int)))) ndC.1 ndC.2
              generalize hH9 : upd H8 C (.dT (putK (ckV ck) (kk2 k) (V.int (j : Int)))) = H9 at K9 D9
              have eC9 : H9 C = some (.dT (ckV (ck ++ [(k, j)]))) := by rw [← hH9, upd_same, ← ec]; rfl
              have eB9 : H9 B = some (.dT (bkV bk)) := by rw [← hH9, upd_ne hBC]; exact eB8
              have eW9 : H9 W = some (.dK (wkV wk)) := by rw [← hH9, upd_ne hCW.symm]; exact eW8
              have eD9 : H9 DR = some (.lst ds) := by rw [← hH9, upd_ne hDC]; exact eD8
              have ep9 : H9 p = some (.tup ((kk2 k).map kV)) := by rw [← hH9, upd_ne pC]; exact ep8
              have eb := hc.bnone e
              have hci : ∀ o, CkI wk (sumTo Z i + (m + 1)) (ck ++ [(k, j)]) (bk ++ [(k, o)]) := fun o => hc.new e hjw (by rw [hk]; exact ⟨g1.2, g2.2⟩) o
              refine ⟨_, rfl, _, rfl, B, _, rfl, DPut.t (v := .non) eB9 ep9 ?_, ?_⟩
              · unfold bkV
                rw [List.length_map]; have := hc.len; have e9 := congrArg List.length hc.cb; rw [List.length_map, List.length_map] at e9; exact lt_s (by omega)
              have ebp : putK (bkV bk) (kk2 k) .non = bkV (bk ++ [(k, none)]) := bkV_put (x := none) eb
              have K10 := K9.mut (o := .dT (putK (bkV bk) (kk2 k) .non)) nB0
              have D10 := D9.at (o := .dT (putK (bkV bk) (kk2 k) .non)) ndB.1 ndB.2
              generalize hH10 : upd H9 B (.dT (putK (bkV bk) (kk2 k) .non)) = H10 at K10 D10
              have eB10 : H10 B = some (.dT (bkV (bk ++ [(k, none)]))) := by rw [← hH10, upd_same, ← ebp]
              have eC10 : H10 C = some (.dT (ckV (ck ++ [(k, j)]))) := by rw [← hH10, upd_ne hBC.symm]; exact eC9
              have eW10 : H10 W = some (.dK (wkV wk)) := by rw [← hH10, upd_ne hBW.symm]; exact eW9
              have eD10 : H10 DR = some (.lst ds) := by rw [← hH10, upd_ne hDB]; exact eD9
              have ep10 : H10 p = some (.tup ((kk2 k).map kV)) := by rw [← hH10, upd_ne pB]; exact ep9
              refine ⟨_, rfl, _, rfl, _, _, rfl, rfl, _, rfl, _, rfl, _, _, rfl, rfl, _, rfl, mkS zs, rfl, hb, rfl, _, rfl, rfl, trivial, _, rfl, ?_⟩
              refine ite2 (fun c1 => ?_) (fun c1 => ?_)
              · refine ⟨_, rfl, _, rfl, _, _, rfl, rfl, _, rfl, _, rfl, _, _, rfl, rfl, _, rfl, mkS zs, rfl, hb, rfl, _, rfl, rfl, trivial, _, rfl, ite2 (fun c2 => ?_) (fun c2 => ?_)⟩
                · refine ⟨_, rfl, _, rfl, d, l, _, ds, rfl, D10, .inl ⟨DR, rfl, nDR, SqL.of eD10⟩, ds0, ds1, fun H12 v K12 D12 hv => ?_⟩
                  obtain ⟨o, rfl⟩ := hds v hv
                  have KX := K12
                  have eB12 := KX _ _ ndB.1 eB10
                  have eC12 := KX _ _ ndC.1 eC10
                  have eW12 := KX _ _ ndW.1 eW10
                  have ep12 := KX _ _ pd ep10
                  refine ⟨_, rfl, _, rfl, B, _, rfl, DPut.t eB12 ep12 ?_, ?_⟩
                  · have := (hci none).len
                    have e9 := congrArg List.length (hci none).cb
                    unfold bkV
                    rw [List.length_map, List.length_map] at e9
                    rw [List.length_map]; exact lt_s (by omega)
                  refine ⟨some (.int ((m + 1 : Nat) : Int)), some (.ref p), _, bk ++ [(k, o)], rfl, (K10.trans KX).mut nB0, D12.at ndB.1 ndB.2, by rw [upd_ne hBW.symm]; exact eW12, by rw [upd_ne hBC.symm]; exact eC12, by rw [upd_same, bkV_again eb], by rw [upd_ne hDB]; exact K12 _ _ nDR eD10, hci o⟩
                · exact ⟨some (.int ((m + 1 : Nat) : Int)), some (.ref p), _, _, rfl, K10, D10, eW10, eC10, eB10, eD10, hci none⟩
              · exact ⟨some (.int ((m + 1 : Nat) : Int)), some (.ref p), _, _, rfl, K10, D10, eW10, eC10, eB10, eD10, hci none⟩
            · refine ⟨_, rfl, _, rfl, _, rfl, _, rfl, _, _, rfl, rfl, mkS zs, _, _, rfl, rfl, hb, by rw [ea]; exact atI_nat g1.1, W, natV x, rfl, gw, ?_⟩
              refine ⟨d, l, _, rfl, D7, by show (x : Int) ≤ _; omega, fun H8 r K8 D8 r1 r2 => ?_⟩
              obtain ⟨j, rfl, hj⟩ := natOf x1 r1 r2
              have dp : ∀ Hn, DPut H8 C (.ref p) (V.int (j : Int)) Hn → DPut H8 C (.ref p) (V.int (j : Int)) Hn := fun _ h => h
              have hjw : j < wOf wk k.1 := by
                rw [hk]; unfold wOf
                show j < (look wk (zs.getD m 0)).getD 1
                rw [hx]; exact hj
              have eC8 := K8 _ _ ndC.1 (kp _ _ eC5)
              have eB8 := K8 _ _ ndB.1 (kp _ _ eB5)
              have eW8 := K8 _ _ ndW.1 (kp _ _ eW5)
              have ep8 := K8 _ _ pd ep
              have eD8 := K8 _ _ nDR (kp _ _ eD5)
              have KK := K7.trans K8
              refine ⟨_, rfl, _, rfl, C, _, rfl, dp _ (DPut.t eC8 ep8 ?_), ?_⟩
              · unfold ckV
                rw [List.length_map]; have := hc.len; exact lt_s (by omega)
              have ec : putK (ckV ck) (kk2 k) (natV j) = ckV (ck ++ [(k, j)]) := ckV_put e
              have K9 := KK.mut (o := .dT (putK (ckV ck) (kk2 k) (V.int (j : Int)))) nC0
              have D9 := D8.at (o := .dT (putK (ckV ck) (kk2 k) (V.int (j : Int)))) ndC.1 ndC.2
              generalize hH9 : upd H8 C (.dT (putK (ckV ck) (kk2 k) (V.int (j : Int)))) = H9 at K9 D9
              have eC9 : H9 C = some (.dT (ckV (ck ++ [(k, j)]))) := by rw [← hH9, upd_same, ← ec]; rfl
              have eB9 : H9 B = some (.dT (bkV bk)) := by rw [← hH9, upd_ne hBC]; exact eB8
              have eW9 : H9 W = some (.dK (wkV wk)) := by rw [← hH9, upd_ne hCW.symm]; exact eW8
              have eD9 : H9 DR = some (.lst ds) := by rw [← hH9, upd_ne hDC]; exact eD8
              have ep9 : H9 p = some (.tup ((kk2 k).map kV)) := by rw [← hH9, upd_ne pC]; exact ep8
              have eb := hc.bnone e
              have hci : ∀ o, CkI wk (sumTo Z i + (m + 1)) (ck ++ [(k, j)]) (bk ++ [(k, o)]) := fun o => hc.new e hjw (by rw [hk]; exact ⟨g1.2, g2.2⟩) o
              refine ⟨_, rfl, _, rfl, B, _, rfl, DPut.t (v := .non) eB9 ep9 ?_, ?_⟩
              · unfold bkV
                rw [List.length_map]; have := hc.len; have e9 := congrArg List.length hc.cb; rw [List.length_map, List.length_map] at e9; exact lt_s (by omega)
              have ebp : putK (bkV bk) (kk2 k) .non = bkV (bk ++ [(k, none)]) := bkV_put (x := none) eb
              have K10 := K9.mut (o := .dT (putK (bkV bk) (kk2 k) .non)) nB0
              have D10 := D9.at (o := .dT (putK (bkV bk) (kk2 k) .non)) ndB.1 ndB.2
              generalize hH10 : upd H9 B (.dT (putK (bkV bk) (kk2 k) .non)) = H10 at K10 D10
              have eB10 : H10 B = some (.dT (bkV (bk ++ [(k, none)]))) := by rw [← hH10, upd_same, ← ebp]
              have eC10 : H10 C = some (.dT (ckV (ck ++ [(k, j)]))) := by rw [← hH10, upd_ne hBC.symm]; exact eC9
              have eW10 : H10 W = some (.dK (wkV wk)) := by rw [← hH10, upd_ne hBW.symm]; exact eW9
              have eD10 : H10 DR = some (.lst ds) := by rw [← hH10, upd_ne hDB]; exact eD9
              have ep10 : H10 p = some (.tup ((kk2 k).map kV)) := by rw [← hH10, upd_ne pB]; exact ep9
              refine ⟨_, rfl, _, rfl, _, _, rfl, rfl, _, rfl, _, rfl, _, _, rfl, rfl, _, rfl, mkS zs, rfl, hb, rfl, _, rfl, rfl, trivial, _, rfl, ?_⟩
              refine ite2 (fun c1 => ?_) (fun c1 => ?_)
              · refine ⟨_, rfl, _, rfl, _, _, rfl, rfl, _, rfl, _, rfl, _, _, rfl, rfl, _, rfl, mkS zs, rfl, hb, rfl, _, rfl, rfl, trivial, _, rfl, ite2 (fun c2 => ?_) (fun c2 => ?_)⟩
                · refine ⟨_, rfl, _, rfl, d, l, _, ds, rfl, D10, .inl ⟨DR, rfl, nDR, SqL.of eD10⟩, ds0, ds1, fun H12 v K12 D12 hv => ?_⟩
                  obtain ⟨o, rfl⟩ := hds v hv
                  have KX := K12
                  have eB12 := KX _ _ ndB.1 eB10
                  have eC12 := KX _ _ ndC.1 eC10
                  have eW12 := KX _ _ ndW.1 eW10
                  have ep12 := KX _ _ pd ep10
                  refine ⟨_, rfl, _, rfl, B, _, rfl, DPut.t eB12 ep12 ?_, ?_⟩
                  · have := (hci none).len
                    have e9 := congrArg List.length (hci none).cb
                    unfold bkV
                    rw [List.length_map, List.length_map] at e9
                    rw [List.length_map]; exact lt_s (by omega)
                  refine ⟨some (.int ((m + 1 : Nat) : Int)), some (.ref p), _, bk ++ [(k, o)], rfl, (K10.trans KX).mut nB0, D12.at ndB.1 ndB.2, by rw [upd_ne hBW.symm]; exact eW12, by rw [upd_ne hBC.symm]; exact eC12, by rw [upd_same, bkV_again eb], by rw [upd_ne hDB]; exact K12 _ _ nDR eD10, hci o⟩
                · exact ⟨some (.int ((m + 1 : Nat) : Int)), some (.ref p), _, _, rfl, K10, D10, eW10, eC10, eB10, eD10, hci none⟩
              · exact ⟨some (.int ((m + 1 : Nat) : Int)), some (.ref p), _, _, rfl, K10, D10, eW10, eC10, eB10, eD10, hci none⟩
        · rintro σ' H5 ⟨x7, x8, ck, bk, rfl, K5, D5, eW5, eC5, eB5, eD5, hc⟩
          exact ⟨_, x7, x8, ck, bk, rfl, K5, D5, eW5, eC5, eB5, eD5, hc.up (by omega)⟩
      · rintro σ' H4 ⟨x6, x7, x8, ck, bk, rfl, K4, D4, eW4, eC4, eB4, eD4, hc⟩
        have hc : CkI wk 60 ck bk := CkI.up hc (by rw [List.length_map]; exact Nat.le_trans sumTo_le hZ.sm)
        obtain ⟨lc, nc, cb, cwk, uck⟩ := hc
        have dk : Dicts wk ck bk := ⟨hw.nd, hw.w3, fun r hr => tu _ (hw.from_ r hr), by omega, nc, cb, by omega, cwk, uck⟩
        have lb : bk.length ≤ 60 := by
          have e9 := congrArg List.length cb
          rw [List.length_map, List.length_map] at e9
          omega
        -- widths
        refine ⟨_, rfl, W, wkV wk, (wk.map (·.1)).map sg1, rfl, .inl eW4, ?_, ?_, fun ys0 sp hperm hsort nsp => ?_⟩
        · unfold wkV
          rw [List.map_map, List.map_map, List.map_map]; rfl
        · rw [List.length_map, List.length_map]; omega
        obtain ⟨ys, hys, rfl⟩ := perm_lift hperm
        have sy := sorted_sg hsort
        have ly : ys.length ≤ 60 := by
          have e := hys.length_eq
          rw [List.length_map] at e
          omega
        have evy : (ys.map sg1).map V.str = ys.map sgn := by rw [List.map_map]; rfl
        have K5 := K4.new (o := .lst ((ys.map sg1).map V.str)) nsp
        have D5 := D4.new (o := .lst ((ys.map sg1).map V.str)) nsp
        have hspW : sp ≠ W := fun z => by rw [z, eW4] at nsp; cases nsp
        have hspC : sp ≠ C := fun z => by rw [z, eC4] at nsp; cases nsp
        have hspB : sp ≠ B := fun z => by rw [z, eB4] at nsp; cases nsp
        have eS5 : upd H4 sp (.lst ((ys.map sg1).map V.str)) sp = some (.lst (ys.map sgn)) := by rw [upd_same, evy]
        have s45 := same_upd (o := .lst ((ys.map sg1).map V.str)) (Same.refl H4) nsp
        have eW5 := s45 _ _ eW4
        have eC5 := s45 _ _ eC4
        have eB5 := s45 _ _ eB4
        generalize hH5 : upd H4 sp (.lst ((ys.map sg1).map V.str)) = H5 at K5 D5 eS5 eW5 eC5 eB5
        refine ⟨sp, rfl, ⟨_, SqL.of eS5⟩, fun F nF => ?_⟩
        refine lc_it (walk_list (K := K) (a := sp) (xs := ys.map sgn)) (fun n H' => Same H5 H' ∧ ∃ vs, H' F = some (.lst vs) ∧ RowsL H' vs (rowsW (rowsOf (fW wk) (ys.take n)))) ⟨same_upd (Same.refl H5) nF, [], upd_same, rfl, fun i r h => by simp [rowsOf, rowsW] at h⟩ ?_ ?_ ?_
        · rintro i H' _ ⟨k, _⟩
          exact SqL.of (k _ _ eS5)
        · rintro n x H6 H7 hn ⟨k6, vs, eF, rl⟩ ⟨rfl, hx⟩
          obtain ⟨c, hcn, rfl⟩ := map_at2 hx
          obtain ⟨x, hxk⟩ := look_key (hys.mem_iff.mp (List.mem_of_getElem? hcn))
          have wx : wOf wk c = x := by unfold wOf; rw [hxk]; rfl
          have lvs : vs.length ≤ 60 := by
            rw [rl.1]
            unfold rowsW
            rw [List.length_map]
            have := rowsOf_len (fW wk) (ys.take n)
            rw [List.length_take] at this
            omega
          have g : DGet H7 W (sgn c) (some (natV x)) := by
            have := DGet.k (k := Sum.inr (sg1 c)) (k6 _ _ eW5)
            rw [wkV_get, hxk] at this
            exact this
          refine ⟨rfl, _, rfl, _, rfl, W, _, rfl, g, _, _, rfl, rfl, decide (1 < x), congrArg V.bl (decide_eq_decide.mpr ⟨fun h => by omega, fun h => by omega⟩), ite2 (fun c9 => ?_) (fun c9 => ?_)⟩
          · have c9 := of_decide_eq_true c9
            refine ⟨_, rfl, _, rfl, _, rfl, W, _, rfl, g, Nat.le_of_lt (lt_s (by show _ < 100000; simp)), fun b nb => ?_⟩
            have kb := same_upd (o := .tup [sgn c, natV x]) (Same.refl H7) nb
            refine ⟨vs, kb _ _ eF, lt_s (by omega), same_mut (k6.trans kb) nF, _, upd_same, ?_⟩
            rw [rowsOf_succ hcn, show fW wk c = some x by unfold fW; rw [wx, if_pos c9]]
            unfold rowsW
            rw [List.map_append]
            exact ((rl.same (same_tup kb)).snoc (r := ([c], natV x)) upd_same).same (keepT (kb _ _ eF))
          · refine ⟨k6, vs, eF, ?_⟩
            rw [rowsOf_succ hcn, show fW wk c = none by unfold fW; rw [wx, if_neg fun z => c9 (decide_eq_true z)]]
            show RowsL H7 vs (rowsW (rowsOf (fW wk) (ys.take n) ++ []))
            rw [List.append_nil]
            exact rl
        rintro H6 ⟨k6, vsW, eF6, rlW⟩
        rw [List.length_map, List.take_length] at rlW
        have K6 : Kp d H H6 := K5.trans fun b o _ e => k6 b o e
        have D6 : DI d l H6 := D5.keep k6
        have eC6 := k6 _ _ eC5
        have eB6 := k6 _ _ eB5
        -- cuts
        refine ⟨_, rfl, C, ckV ck, ck.map (·.1), rfl, .inl eC6, ?_, ?_, ?_, fun wsC sC hpermC hpwC hallC nsC => ?_⟩
        · unfold ckV
          rw [List.map_map, List.map_map]; rfl
        · rw [List.length_map]; omega
        · intro k hk
          obtain ⟨r, hr, rfl⟩ := List.mem_map.mp hk
          have := uck r hr
          omega
        have lsC : wsC.length ≤ 60 := by
          have e := hpermC.length_eq
          rw [List.length_map, List.length_map] at e
          omega
        have K6a := K6.new (o := .lst (wsC.map fun y => V.ref y.1)) nsC
        have D6a := D6.new (o := .lst (wsC.map fun y => V.ref y.1)) nsC
        have saC := same_upd (o := .lst (wsC.map fun y => V.ref y.1)) (Same.refl H6) nsC
        have eSC : upd H6 sC (.lst (wsC.map fun y => V.ref y.1)) sC = some (.lst (wsC.map fun y => V.ref y.1)) := upd_same
        generalize hHaC : upd H6 sC (.lst (wsC.map fun y => V.ref y.1)) = HaC at K6a D6a saC eSC
        refine ⟨sC, rfl, ⟨_, SqL.of eSC⟩, fun FC nFC => ?_⟩
        refine lc_it (walk_list (K := K) (a := sC) (xs := wsC.map fun y => V.ref y.1)) (fun n H' => Same HaC H' ∧ ∃ vs, H' FC = some (.lst vs) ∧ RowsL H' vs (rows2 (rowsOf (fC ck) ((wsC.map (·.2)).take n)))) ⟨same_upd (Same.refl HaC) nFC, [], upd_same, rfl, fun i r h => by simp [rowsOf, rows2] at h⟩ ?_ ?_ ?_
        · rintro i H' _ ⟨k, _⟩
          exact SqL.of (k _ _ eSC)
        · rintro n x H7 H8 hn ⟨k7, vs, eF, rl⟩ ⟨rfl, hx⟩
          obtain ⟨y, hyn, rfl⟩ := map_at2 hx
          have hcn : (wsC.map (·.2))[n]? = some y.2 := by rw [List.getElem?_map, hyn]; rfl
          obtain ⟨x, hxk⟩ := look_key (hpermC.mem_iff.mp (List.mem_of_getElem? hcn))
          have lvs : vs.length ≤ 60 := by
            rw [rl.1]
            unfold rows2
            rw [List.length_map]
            have := rowsOf_len (fC ck) ((wsC.map (·.2)).take n)
            rw [List.length_take, List.length_map] at this
            omega
          have ey : H8 y.1 = some (.tup ((kk2 y.2).map kV)) := k7 _ _ (saC _ _ (hallC y (List.mem_of_getElem? hyn)))
          have g : DGet H8 C (.ref y.1) (some (natV x)) := by
            have := DGet.t (k := kk2 y.2) (k7 _ _ (saC _ _ eC6)) ey
            rw [ckV_get, hxk] at this
            exact this
          have wx : cutOf ck y.2.1 y.2.2 = x := by
            unfold cutOf
            show (look ck y.2).getD 0 = x
            rw [hxk]; rfl
          refine ⟨rfl, _, rfl, _, rfl, C, _, rfl, g, _, _, rfl, rfl, decide (0 < x), congrArg V.bl (decide_eq_decide.mpr ⟨fun h => by omega, fun h => by omega⟩), ite2 (fun c9 => ?_) (fun c9 => ?_)⟩
          · have c9 := of_decide_eq_true c9
            refine ⟨_, rfl, _, rfl, _, rfl, C, _, rfl, g, Nat.le_of_lt (lt_s (by show _ < 100000; simp)), fun q8 nq8 => ?_⟩
            have kq8 := same_upd (o := .tup [natV x]) (Same.refl H8) nq8
            refine ⟨y.1, q8, _, _, rfl, rfl, SqT.of (kq8 _ _ ey), SqT.of upd_same, Nat.le_of_lt (lt_s (by show _ < 100000; simp [kk2])), (fun h => by cases h), (fun _ h => by cases h), fun _ _ b nb => ?_⟩
            have kb := same_upd (o := .tup ((kk2 y.2).map kV ++ [natV x])) (Same.refl _) nb
            have kk := kq8.trans kb
            refine ⟨vs, kk _ _ eF, lt_s (by omega), same_mut (k7.trans kk) nFC, _, upd_same, ?_⟩
            rw [rowsOf_succ hcn, show fC ck y.2 = some x by unfold fC; rw [wx, if_pos c9]]
            unfold rows2
            rw [List.map_append]
            exact ((rl.same (same_tup kk)).snoc (r := ([y.2.1, y.2.2], natV x)) upd_same).same (keepT (kk _ _ eF))
          · refine ⟨k7, vs, eF, ?_⟩
            rw [rowsOf_succ hcn, show fC ck y.2 = none by unfold fC; rw [wx, if_neg fun z => c9 (decide_eq_true z)]]
            show RowsL H8 vs (rows2 (rowsOf (fC ck) ((wsC.map (·.2)).take n) ++ []))
            rw [List.append_nil]
            exact rl
        rintro H9 ⟨k9, vsC, eFC9, rlC⟩
        rw [List.length_map, show wsC.length = (wsC.map (·.2)).length by rw [List.length_map], List.take_length] at rlC
        have K9 : Kp d H H9 := K6a.trans fun b o _ e => k9 b o e
        have D9 : DI d l H9 := D6a.keep k9
        have t69 : Same H6 H9 := saC.trans k9
        have eB9 := t69 _ _ eB6
        have eF9 := t69 _ _ eF6
        -- breaks
        refine ⟨_, rfl, B, bkV bk, bk.map (·.1), rfl, .inl eB9, ?_, ?_, ?_, fun wsB sB hpermB hpwB hallB nsB => ?_⟩
        · unfold bkV
          rw [List.map_map, List.map_map]; rfl
        · rw [List.length_map]; omega
        · intro k hk
          rw [← cb] at hk
          obtain ⟨r, hr, rfl⟩ := List.mem_map.mp hk
          have := uck r hr
          omega
        have lsB : wsB.length ≤ 60 := by
          have e := hpermB.length_eq
          rw [List.length_map, List.length_map] at e
          omega
        have K9a := K9.new (o := .lst (wsB.map fun y => V.ref y.1)) nsB
        have D9a := D9.new (o := .lst (wsB.map fun y => V.ref y.1)) nsB
        have saB := same_upd (o := .lst (wsB.map fun y => V.ref y.1)) (Same.refl H9) nsB
        have eSB : upd H9 sB (.lst (wsB.map fun y => V.ref y.1)) sB = some (.lst (wsB.map fun y => V.ref y.1)) := upd_same
        generalize hHaB : upd H9 sB (.lst (wsB.map fun y => V.ref y.1)) = HaB at K9a D9a saB eSB
        refine ⟨sB, rfl, ⟨_, SqL.of eSB⟩, fun FB nFB => ?_⟩
        refine lc_it (walk_list (K := K) (a := sB) (xs := wsB.map fun y => V.ref y.1)) (fun n H' => Same HaB H' ∧ ∃ vs, H' FB = some (.lst vs) ∧ RowsL H' vs (rows2 (rowsOf (fB bk) ((wsB.map (·.2)).take n)))) ⟨same_upd (Same.refl HaB) nFB, [], upd_same, rfl, fun i r h => by simp [rowsOf, rows2] at h⟩ ?_ ?_ ?_
        · rintro i H' _ ⟨k, _⟩
          exact SqL.of (k _ _ eSB)
        · rintro n x H7 H8 hn ⟨k7, vs, eF, rl⟩ ⟨rfl, hx⟩
          obtain ⟨y, hyn, rfl⟩ := map_at2 hx
          have hcn : (wsB.map (·.2))[n]? = some y.2 := by rw [List.getElem?_map, hyn]; rfl
          obtain ⟨x, hxk⟩ := look_key (hpermB.mem_iff.mp (List.mem_of_getElem? hcn))
          have lvs : vs.length ≤ 60 := by
            rw [rl.1]
            unfold rows2
            rw [List.length_map]
            have := rowsOf_len (fB bk) ((wsB.map (·.2)).take n)
            rw [List.length_take, List.length_map] at this
            omega
          have ey : H8 y.1 = some (.tup ((kk2 y.2).map kV)) := k7 _ _ (saB _ _ (hallB y (List.mem_of_getElem? hyn)))
          have g : DGet H8 B (.ref y.1) (some (prV x)) := by
            have := DGet.t (k := kk2 y.2) (k7 _ _ (saB _ _ eB9)) ey
            rw [bkV_get, hxk] at this
            exact this
          have wx : fB bk y.2 = x := by
            unfold fB
            rw [hxk]; rfl
          cases x with
          | some p =>
            refine ⟨rfl, _, rfl, _, rfl, B, _, rfl, g, rfl, true, rfl, ?_⟩
            refine ⟨_, rfl, _, rfl, _, rfl, B, _, rfl, g, Nat.le_of_lt (lt_s (by show _ < 100000; simp)), fun q8 nq8 => ?_⟩
            have kq8 := same_upd (o := .tup [natV p]) (Same.refl H8) nq8
            refine ⟨y.1, q8, _, _, rfl, rfl, SqT.of (kq8 _ _ ey), SqT.of upd_same, Nat.le_of_lt (lt_s (by show _ < 100000; simp [kk2])), (fun h => by cases h), (fun _ h => by cases h), fun _ _ b nb => ?_⟩
            have kb := same_upd (o := .tup ((kk2 y.2).map kV ++ [natV p])) (Same.refl _) nb
            have kk := kq8.trans kb
            refine ⟨vs, kk _ _ eF, lt_s (by omega), same_mut (k7.trans kk) nFB, _, upd_same, ?_⟩
            rw [rowsOf_succ hcn, wx]
            unfold rows2
            rw [List.map_append]
            exact ((rl.same (same_tup kk)).snoc (r := ([y.2.1, y.2.2], natV p)) upd_same).same (keepT (kk _ _ eF))
          | none =>
            refine ⟨rfl, _, rfl, _, rfl, B, _, rfl, g, rfl, false, rfl, ?_⟩
            refine ⟨k7, vs, eF, ?_⟩
            rw [rowsOf_succ hcn, wx]
            show RowsL H8 vs (rows2 (rowsOf (fB bk) ((wsB.map (·.2)).take n) ++ []))
            rw [List.append_nil]
            exact rl
        rintro H10 ⟨k10, vsB, eFB10, rlB⟩
        rw [List.length_map, show wsB.length = (wsB.map (·.2)).length by rw [List.length_map], List.take_length] at rlB
        have K10 : Kp d H H10 := K9a.trans fun b o _ e => k10 b o e
        have D10 : DI d l H10 := D9a.keep k10
        have t910 : Same H9 H10 := saB.trans k10
        have eF10 := t910 _ _ eF9
        have eFC10 := t910 _ _ eFC9
        have rlW10 := rlW.same (same_tup (t69.trans t910))
        have rlC10 := rlC.same (same_tup t910)
        have nFd := (D5.nd nF).1
        have nFCd := (D6a.nd nFC).1
        have nFBd := (D9a.nd nFB).1
        refine ⟨5, rfl, by decide, by decide, fun G nG => ?_⟩
        have ndG := D10.nd nG
        refine lc_range (lo := 0) (n := 5) (fun i H' => ∃ ps : List Nat, ps.length = i ∧ (∀ x ∈ ps, x ≤ 999) ∧ Kp d H10 H' ∧ DI d l H' ∧ H' G = some (.lst (ps.map natV))) ⟨[], rfl, (fun _ h => nomatch h), (Kp.refl d H10).new nG, D10.new nG, upd_same⟩ ?_ ?_
        · rintro i H11 hi ⟨ps, hl, hp, K11, D11, eG⟩
          refine ⟨rfl, _, rfl, sz4 _ (by simp), fun p np => ?_⟩
          have eG' := (same_upd (o := .lst [V.int 0, V.int 1, V.int 6, V.int 50, V.int 999]) (Same.refl H11) np) _ _ eG
          refine ⟨d, l, _, _, rfl, D11.new np, .inl ⟨p, rfl, (D11.nd np).1, SqL.of upd_same⟩, by simp, by simp, fun H12 v K12 D12 hv => ?_⟩
          obtain ⟨x, rfl, hx⟩ : ∃ x : Nat, v = natV x ∧ x ≤ 999 := by
            simp only [List.mem_cons, List.not_mem_nil, or_false] at hv
            rcases hv with rfl | rfl | rfl | rfl | rfl
            · exact ⟨0, rfl, by decide⟩
            · exact ⟨1, rfl, by decide⟩
            · exact ⟨6, rfl, by decide⟩
            · exact ⟨50, rfl, by decide⟩
            · exact ⟨999, rfl, by decide⟩
          refine ⟨_, K12 _ _ ndG.1 eG', lt_s (by rw [List.length_map]; omega), ps ++ [x], by rw [List.length_append, hl]; rfl, fun y hy => ?_, ((K11.new np).trans K12).mut nG, D12.at ndG.1 ndG.2, by rw [upd_same, List.map_append]; rfl⟩
          rcases List.mem_append.mp hy with z | z
          · exact hp y z
          · rw [List.mem_singleton.mp z]; exact hx
        rintro H11 ⟨ps, hpl, hp, K11, D11, eG⟩
        refine ⟨G, _, rfl, .inl ⟨SqL.of eG, fun PT nPT => ?_⟩⟩
        have ndP := D11.nd nPT
        have K12 : Kp d H10 (upd H11 PT (.tup (ps.map natV))) := K11.new nPT
        have D12 := D11.new (o := .tup (ps.map natV)) nPT
        have eP12 : upd H11 PT (.tup (ps.map natV)) PT = some (.tup (ps.map natV)) := upd_same
        generalize upd H11 PT (.tup (ps.map natV)) = H12 at K12 D12 eP12
        refine ⟨_, rfl, d, l, _, rfl, D12, by decide, fun Hx rx Kx Dx _ _ => ?_⟩
        refine ⟨_, _, rfl, rfl, _, rfl, d, l, _, rfl, Dx, by decide, fun Hy ry Ky Dy _ _ => ?_⟩
        refine ⟨_, _, rfl, rfl, _, rfl, d, l, _, rfl, Dy, by decide, fun Hz rz Kz Dz _ _ => ?_⟩
        have KZ := K12.trans ((Kx.trans Ky).trans Kz)
        have ePz := ((Kx.trans Ky).trans Kz) _ _ ndP.1 eP12
        have eFz := KZ _ _ nFd eF10
        have eFCz := KZ _ _ nFCd eFC10
        have eFBz := KZ _ _ nFBd eFB10
        have rlWz := rlW10.same (kp_tup D10 KZ)
        have rlCz := rlC10.same (kp_tup D10 KZ)
        have rlBz := rlB.same (kp_tup D10 KZ)
        refine ⟨_, _, rfl, rfl, _, rfl, F, vsW, rfl, .inl ⟨SqL.of eFz, fun p1' np1' => ?_⟩⟩
        have s1 := same_upd (o := .tup vsW) (Same.refl Hz) np1'
        refine ⟨_, rfl, FC, vsC, rfl, .inl ⟨SqL.of (s1 _ _ eFCz), fun p2' np2' => ?_⟩⟩
        have s2 := same_upd (o := .tup vsC) (Same.refl _) np2'
        refine ⟨_, rfl, FB, vsB, rfl, .inl ⟨SqL.of (s2 _ _ (s1 _ _ eFBz)), fun p3' np3' => ?_⟩⟩
        have s3 := same_upd (o := .tup vsB) (Same.refl _) np3'
        refine ⟨_, rfl, Nat.le_of_lt (lt_s (by show _ < 100000; simp)), fun p5 np5 => ?_⟩
        have s5 := same_upd (o := .tup [V.int (6 + rx), V.int (3 + ry), V.int (1 + rz), V.ref p1', V.ref p2', V.ref p3', V.ref PT]) (Same.refl _) np5
        have k25 := s2.trans (s3.trans s5)
        have k35 := s3.trans s5
        have k15 := s1.trans k25
        refine q _ _ ⟨6 + rx, 3 + ry, 1 + rz, rowsOf (fW wk) ys, rowsOf (fC ck) (wsC.map (·.2)), rowsOf (fB bk) (wsB.map (·.2))⟩ ((K10.trans KZ).trans fun b o _ e => k15 b o e) (Dz.keep k15) ?_ ⟨p5, PT, _, _, _, _, _, _, ps, rfl, upd_same, k15 _ _ ePz, hpl, hp⟩ ?_
        · exact ⟨p5, _, _, _, _, rfl, upd_same, (rlWz.same (same_tup k15)).toV (k25 _ _ upd_same), (rlCz.same (same_tup k15)).toV (k35 _ _ upd_same), (rlBz.same (same_tup k15)).toV (s5 _ _ upd_same)⟩
        · exact style_ok dk hys sy hpermC hpwC hpermB hpwB _ _ _
end
end Vf

set_option Elab.async false
set_option linter.all false
set_option maxRecDepth 100000
set_option maxHeartbeats 4000000
namespace Vf
open PySem PySem.Spec PyProof.Rows L2 TL
section
variable {P : Program} {w : World} {K : PySem.W.Frag} {mg : Str → Option Value} {base : Heap}
theorem rIx_tup {p : Addr} {xs : List V} {i : Int} {v : V} {H : Hp} {Q : VK} (s : SqT K H p xs) (h : atI xs i = some v) (q : Q v H) : rIx K (.ref p) (.int i) H Q := .inr (.inl ⟨p, xs, i, v, rfl, rfl, s, h, q⟩)
theorem ok_law_pw (T : Txt K mg) : FnOk P w K mg base CX0 1 T.a_law_piece_width T.d_law_piece_width ["_law_shape_here", "_law_first", "_law_last"] spPieceWidth := by
  refine T.D_law_piece_width.F.ok sc_law_piece_width (fun vs H Q E h => ?_) (fun cdv A outer s H vs Q E hr h => ?_)
  · obtain ⟨v, S, zs, i, j, a, b, rfl, _⟩ := h
    rfl
  · obtain ⟨v, S, zs, i, j, a, b, rfl, ⟨sa, pa, us, rfl, e1, e2, pl⟩, ok, h0, hij, ea, eb, q⟩ := h
    have lj : j ≤ (places S zs).length + 1 := by
      have := (List.getElem?_eq_some_iff.mp eb).1
      rw [ends_len] at this
      omega
    obtain ⟨J, eJ⟩ : ∃ J : Nat, J = if j = (places S zs).length + 1 then 0 else j := ⟨_, rfl⟩
    rw [← eJ]
    have at1 : ∀ k : Nat, 0 < k → k ≤ (places S zs).length → ∃ (r : Nat × Nat) (x : Addr), us[k - 1]? = some (.ref x) ∧ H x = some (.tup [natV (pieceW S zs 0 r.1), natV (pieceW S zs r.1 zs.length), natV r.2]) ∧ (ends S zs)[k]? = some r.1 ∧ r ∈ places S zs := by
      intro k h1 h2
      have g : (places S zs)[k - 1]? = some (places S zs)[k - 1] := List.getElem?_eq_getElem (by omega)
      obtain ⟨x, gx, y, rfl, ey⟩ := pl.2 _ _ g
      have := ends_part g
      rw [show k - 1 + 1 = k by omega] at this
      exact ⟨_, y, gx, ey, this, List.getElem_mem _⟩
    refine ⟨_, (pss_cons (ps_if (pt_cmpR op_eq (pv 2) pe_int (nomark _)) (pss_one (ps_ret (pe_ifExp (pt_cmpR op_eq (pv 1) pe_int (nomark _)) (pe_ix ix_seq (pv 0) pe_int (fun _ _ => rfl)) (pe_ix ix_seq (pe_ix ix_seq (pe_ix ix_seq (pv 0) pe_int (fun _ _ => rfl)) (pe_op op_sub (pv 1) pe_int) (fun _ _ => rfl)) pe_int (fun _ _ => rfl))))) pss_nil)
      (pss_cons (ps_set (i := 3) sc_law_piece_width.nd rfl (.inl rfl) (pe_ix ix_seq (pe_ix ix_seq (pe_ix ix_seq (pv 0) pe_int (fun _ _ => rfl)) (pe_op op_sub (pv 2) pe_int) (fun _ _ => rfl)) pe_int (fun _ _ => rfl)))
      (pss_one (ps_ret (pe_ifExp (pt_cmpR op_eq (pv 1) pe_int (nomark _)) (pv 3) (pe_op op_sub (pe_op op_add (pe_ix ix_seq (pe_ix ix_seq (pe_ix ix_seq (pv 0) pe_int (fun _ _ => rfl)) (pe_op op_sub (pv 1) pe_int) (fun _ _ => rfl)) pe_int (fun _ _ => rfl)) (pv 3)) (pe_ix ix_seq (pv 0) pe_int (fun _ _ => rfl)))))))), ?_⟩
    have cA : ∀ k : Nat, 0 < k → (k : Int) - 1 = ((k - 1 : Nat) : Int) := fun k hk => by omega
    refine ⟨_, rfl, rfl, _, rfl, ?_⟩
    by_cases hj : j = (places S zs).length + 1
    · rw [if_pos hj] at eJ
      subst eJ
      rw [hj, ends_last] at eb
      have : zs.length = b := Option.some.inj eb
      subst this
      refine ifD (fun c => ?_) (fun c => absurd rfl c)
      refine ⟨_, rfl, rfl, _, rfl, ?_⟩
      refine ifD (fun c => ?_) (fun c => ?_)
      · have hi : i = 0 := by have := V.int.inj c; omega
        subst hi
        have : (0 : Nat) = a := Option.some.inj ea
        subst this
        exact ⟨_, rfl, rIx_tup (SqT.of e1) rfl (q _ (Same.refl _))⟩
      · have hi : i ≠ 0 := fun z => c (by rw [z]; rfl)
        obtain ⟨r, x, gx, ex, er, hr2⟩ := at1 i (by omega) (by omega)
        rw [er] at ea
        have : r.1 = a := Option.some.inj ea
        subst this
        exact ⟨_, rfl, rIx_tup (SqT.of e1) rfl ⟨_, rfl, _, _, rfl, rfl, rIx_tup (SqT.of e2) (by rw [cA i (by omega)]; exact atI_nat gx) (rIx_tup (SqT.of ex) rfl (q _ (Same.refl _)))⟩⟩
    · rw [if_neg hj] at eJ
      subst eJ
      refine ifD (fun c => absurd (V.int.inj c) (by omega)) (fun c => ?_)
      obtain ⟨r2, x2, gx2, ex2, er2, hr3⟩ := at1 J (by omega) (by omega)
      rw [er2] at eb
      have : r2.1 = b := Option.some.inj eb
      subst this
      refine ⟨_, rfl, rIx_tup (SqT.of e1) rfl ⟨_, rfl, _, _, rfl, rfl, rIx_tup (SqT.of e2) (by rw [cA J (by omega)]; exact atI_nat gx2) (rIx_tup (SqT.of ex2) rfl ?_)⟩⟩
      refine ⟨_, rfl, rfl, _, rfl, ?_⟩
      refine ifD (fun c => ?_) (fun c => ?_)
      · have hi : i = 0 := by have := V.int.inj c; omega
        subst hi
        have : (0 : Nat) = a := Option.some.inj ea
        subst this
        exact ⟨_, rfl, q _ (Same.refl _)⟩
      · have hi : i ≠ 0 := fun z => c (by rw [z]; rfl)
        obtain ⟨r, x, gx, ex, er, hr2⟩ := at1 i (by omega) (by omega)
        rw [er] at ea
        have : r.1 = a := Option.some.inj ea
        subst this
        refine ⟨_, rfl, rIx_tup (SqT.of e1) rfl ⟨_, rfl, _, _, rfl, rfl, rIx_tup (SqT.of e2) (by rw [cA i (by omega)]; exact atI_nat gx) (rIx_tup (SqT.of ex) rfl ⟨_, rfl, _, _, rfl, rfl, _, rfl, rIx_tup (SqT.of e1) rfl ⟨_, _, rfl, rfl, ?_⟩⟩)⟩⟩
        have hlt : r.1 < r2.1 := by
          have g1 : (places S zs)[i - 1]? = some (places S zs)[i - 1] := List.getElem?_eq_getElem (by omega)
          have g2 : (places S zs)[J - 1]? = some (places S zs)[J - 1] := List.getElem?_eq_getElem (by omega)
          have e3 := ends_part g1
          have e4 := ends_part g2
          rw [show i - 1 + 1 = i by omega, er] at e3
          rw [show J - 1 + 1 = J by omega, er2] at e4
          rw [Option.some.inj e3, Option.some.inj e4]
          exact List.pairwise_iff_getElem.mp (places_asc S zs) _ _ (by omega) (by omega) (by omega)
        have b1 := places_bd hr2
        have b2 := places_bd hr3
        have em := pieceW_mid (zs := zs) ok hlt (by omega) (by omega)
        show Q (V.int ((pieceW S zs r.1 zs.length : Int) + (pieceW S zs 0 r2.1 : Int) - (pieceW S zs 0 zs.length : Int))) H
        rw [em]
        exact q _ (Same.refl _)
end
end Vf

set_option Elab.async false
set_option linter.all false
set_option maxRecDepth 100000
set_option maxHeartbeats 4000000
namespace Vf
open PySem PySem.Spec PyProof.Rows L2 TL
section
variable {P : Program} {w : World} {K : PySem.W.Frag} {mg : Str → Option Value} {base : Heap}
def spLPos : Sp := fun vs H Q _ => ∃ (sa : Addr) (us : List V) (S : Sty) (Z : List (List Nat)), vs = [.ref sa] ∧ SeqH H sa us ∧ LV (ShV S H) us Z ∧ WdsOk S Z ∧
  ∀ H' p vs, Same H H' → H p = none → H' p = some (.lst vs) → LV (FgV H') vs (posL S Z) → Q (.ref p) H'
theorem ok_lpos (T : Txt K mg) : FnOk P w K mg base CX0 1 T.a_law_positions T.d_law_positions ["_law_shapes"] spLPos := by
  refine T.D_law_positions.F.ok sc_law_positions (fun vs H Q E h => ?_) (fun cdv A outer s H vs Q E hr h => ?_)
  · obtain ⟨_, _, _, _, rfl, _⟩ := h
    rfl
  · obtain ⟨sa, us, S, Z, rfl, es, lv, ok, q⟩ := h
    have lus := lv.1
    have l40 := ok.ln
    refine ⟨_, (pss_cons (ps_set (i := 1) sc_law_positions.nd rfl (.inl rfl) (pe_lst pa_nil))
      (pss_cons (ps_for PassesOwn.never rfl (pi_range1 (by rfl) T.n_range (pa_cons (pe_callB call_len (by rfl) T.n_len PySem.boot_len (pa_cons (pv 0) pa_nil)) pa_nil)) (pg_name (i := 2) sc_law_positions.nd rfl (.inl rfl)) (pss_one (ps_for PassesOwn.never rfl (pi_range1 (by rfl) T.n_range (pa_cons (pe_op op_add (pe_callB call_len (by rfl) T.n_len PySem.boot_len (pa_cons (pe_ix ix_seq (pe_ix ix_seq (pv 0) (pv 2) (fun _ _ => rfl)) pe_int (fun _ _ => rfl)) pa_nil)) pe_int) pa_nil)) (pg_name (i := 3) sc_law_positions.nd rfl (.inl rfl)) (pss_one (ps_expr (pe_bm PySem.F.plainAttrs_list PySem.F.slot_list_append PySem.F.type_list_append mt_append (pv 1) (pa_cons (pe_tup (pa_cons (pv 2) (pa_cons (pv 3) pa_nil))) pa_nil)))))))
      (pss_one (ps_ret (pe_op op_cat (pv 1) (pe_lst (pa_cons (pe_tup (pa_cons (pe_callB call_len (by rfl) T.n_len PySem.boot_len (pa_cons (pv 0) pa_nil)) (pa_cons pe_int pa_nil))) pa_nil))))))), ?_⟩
    refine ⟨by show 0 ≤ sizeLine; decide, fun l nl => ?_⟩
    have k1 := same_upd (o := .lst []) (Same.refl H) nl
    have el : upd H l (.lst []) l = some (.lst []) := upd_same
    generalize upd H l (.lst []) = H1 at k1 el
    refine ⟨_, rfl, _, us.length, rfl, (es.same k1).len, (Z.length : Int), by rw [lus], by omega, by omega, ?_⟩
    rw [Int.toNat_natCast]
    have app : ∀ (H3 : Hp) (zs : List V) (rs : List (Nat × Nat)) (p : Addr) (va vb : V) (a b : Nat), va = nV a → vb = nV b → Same H H3 → H3 l = some (.lst zs) → LV (FgV H3) zs rs → H3 p = none →
        upd H3 p (.tup [va, vb]) l = some (.lst zs) ∧ Same H (upd (upd H3 p (.tup [va, vb])) l (.lst (zs ++ [.ref p]))) ∧ LV (FgV (upd (upd H3 p (.tup [va, vb])) l (.lst (zs ++ [.ref p])))) (zs ++ [.ref p]) (rs ++ [(a, b)]) := fun H3 zs rs p va vb a b ha hb k3 e3 lz np => by
      subst ha hb
      have k4 := same_upd (o := .tup [nV a, nV b]) (Same.refl H3) np
      have e4 : upd H3 p (.tup [nV a, nV b]) p = some (.tup [nV a, nV b]) := upd_same
      generalize upd H3 p (.tup [nV a, nV b]) = H4 at k4 e4
      have el4 := k4 _ _ e3
      exact ⟨el4, same_mut (k3.trans k4) nl, LV.snoc (lz.mono fun _ _ z => (z.same k4).kt (kt_mut el4)) ⟨p, rfl, kt_mut el4 _ _ e4⟩⟩
    refine for_it walk_range (fun i σ' H' => ∃ (x2 x3 : Option V) (zs : List V), σ' = [some (.ref sa), some (.ref l), x2, x3] ∧ Same H H' ∧ H' l = some (.lst zs) ∧ LV (FgV H') zs ((List.range i).flatMap (rowL S Z))) ⟨none, none, [], rfl, k1, el, LV.nil⟩ (fun _ _ _ _ _ => trivial) ?_ ?_
    · rintro i x σ' H0 H2 hi ⟨x2, x3, zs, rfl, k2, e2, lz⟩ ⟨rfl, hx⟩
      have hx : x = nV i := by rw [hx]; exact int0 i
      subst hx
      obtain ⟨y, ey, sa2, pa, ws, rfl, e1, e2s, pl⟩ := lv.2 i _ (wz_at hi)
      have plen : ws.length = nP S (wz Z i) := pl.1
      have hn16 := ok.pl _ (wz_mem hi)
      have pl17 := pos_len ok i (by omega)
      have pl680 : i * 17 ≤ 40 * 17 := Nat.mul_le_mul_right _ (by omega)
      have lzl := lz.1
      have er : (List.range (i + 1)).flatMap (rowL S Z) = (List.range i).flatMap (rowL S Z) ++ rowL S Z i := by
        rw [List.range_succ, List.flatMap_append, List.flatMap_cons, List.flatMap_nil, List.append_nil]
      rw [er]
      refine ⟨_, rfl, _, rfl, (es.same k2).rix (atI_nat ey) (rIx_tup (SqT.of (k2 _ _ e1)) rfl ⟨_, ws.length, rfl, .inr ⟨ws, SqT.of (k2 _ _ e2s), rfl⟩, _, _, rfl, rfl, ((nP S (wz Z i) + 1 : Nat) : Int), by rw [plen]; rfl, by omega, by omega, ?_⟩)⟩
      rw [Int.toNat_natCast]
      refine for_it walk_range (fun u σ' H' => ∃ (x3 : Option V) (zs : List V), σ' = [some (.ref sa), some (.ref l), some (nV i), x3] ∧ Same H H' ∧ H' l = some (.lst zs) ∧ LV (FgV H') zs ((List.range i).flatMap (rowL S Z) ++ (rowL S Z i).take u)) ⟨x3, zs, rfl, k2, e2, by rw [List.take_zero, List.append_nil]; exact lz⟩ (fun _ _ _ _ _ => trivial) ?_ ?_
      · rintro u y σ' H0 H3 hu ⟨x3, zs, rfl, k3, e3, lz⟩ ⟨rfl, hy⟩
        have hy : y = nV u := by rw [hy]; exact int0 u
        subst hy
        have e : (rowL S Z i).take (u + 1) = (rowL S Z i).take u ++ [(i, u)] := by
          rw [List.take_succ]
          unfold rowL
          rw [List.getElem?_map, List.getElem?_range hu]; rfl
        have ll := lz.1
        rw [List.length_append, List.length_take, row_len] at ll
        rw [e, ← List.append_assoc]
        refine ⟨.ref l, rfl, .inl ⟨rfl, _, .inl (.inl e3)⟩, _, rfl, _, rfl, by show 2 ≤ sizeLine; decide, fun p np => ?_⟩
        have E := app H3 zs _ p (nV i) (nV u) i u rfl rfl k3 e3 lz np
        exact ⟨l, zs, _, rfl, rfl, E.1, szN (by omega), _, _, rfl, E.2.1, upd_same, E.2.2⟩
      · rintro σ' H3 ⟨x3, zs, rfl, k3, e3, lz⟩
        rw [List.take_of_length_le (l := rowL S Z i) (by rw [row_len]; exact Nat.le_refl _)] at lz
        exact ⟨_, _, zs, rfl, k3, e3, lz⟩
    · rintro σ' H2 ⟨x2, x3, zs, rfl, k2, e2, lz⟩
      have pl17 := pos_len ok Z.length (Nat.le_refl _)
      have pl680 : Z.length * 17 ≤ 40 * 17 := Nat.mul_le_mul_right _ (by omega)
      have lzl := lz.1
      refine ⟨_, rfl, _, rfl, _, us.length, rfl, (es.same k2).len, by show 2 ≤ sizeLine; decide, fun p np => ?_⟩
      have k3 := same_upd (o := .tup [V.int (us.length : Nat), V.int 0]) (Same.refl H2) np
      have ep : upd H2 p (.tup [V.int (us.length : Nat), V.int 0]) p = some (.tup [nV Z.length, nV 0]) := by rw [upd_same, lus]; rfl
      generalize upd H2 p (.tup [V.int (us.length : Nat), V.int 0]) = H3 at k3 ep
      refine ⟨by show 1 ≤ sizeLine; decide, fun p2 np2 => ?_⟩
      have k4 := same_upd (o := .lst [V.ref p]) (Same.refl H3) np2
      have ep2 : upd H3 p2 (.lst [V.ref p]) p2 = some (.lst [V.ref p]) := upd_same
      generalize upd H3 p2 (.lst [V.ref p]) = H4 at k4 ep2
      have k34 := k3.trans k4
      refine ⟨l, p2, zs, [.ref p], rfl, rfl, k34 _ _ e2, ep2, by show _ + 1 ≤ _; exact Nat.le_of_lt (szN (by omega)), fun p3 np3 => ?_⟩
      have k5 := same_upd (o := .lst (zs ++ [V.ref p])) (Same.refl H4) np3
      have k15 := k34.trans k5
      refine q _ p3 _ (k2.trans k15) (Same.free (k2.trans k34) np3) upd_same ?_
      exact LV.snoc (lz.mono fun _ _ z => z.same k15) ⟨p, rfl, (k4.trans k5) _ _ ep⟩
end
end Vf

set_option Elab.async false
set_option linter.all false
set_option maxRecDepth 100000
set_option maxHeartbeats 4000000
namespace Vf
open PySem PySem.Spec PyProof.Rows L2 TL
theorem snocI (ns : List Int) (x : Int) : (ns ++ [x]).sum = ns.sum + x := by
  rw [List.sum_append]; simp
theorem pw100 {S : Sty} (ok : StyOk S) {z : List Nat} (wd : WdOk z) {a m : Nat} (h : m ≤ nP S z + 1) : pieceW S z a (eA S z m) ≤ 100 := by
  rw [← pieceN_len ok]
  exact pieceW_small ok _ _ wd eA_le
theorem eA_zero (S : Sty) (z : List Nat) : eA S z 0 = 0 := rfl
theorem eA_end (S : Sty) (z : List Nat) : eA S z (nP S z + 1) = z.length := by
  unfold eA
  rw [List.getD_eq_getElem?_getD, show (ends S z)[nP S z + 1]? = some z.length from ends_last S z]; rfl
theorem pc_whole (S : Sty) (z : List Nat) : pcW S z 0 0 = pieceW S z 0 z.length := by
  show pieceW S z (eA S z 0) (eA S z (nP S z + 1)) = _
  rw [eA_zero, eA_end]
section
variable {P : Program} {w : World} {K : PySem.W.Frag} {mg : Str → Option Value} {base : Heap}
def spLNat : Sp := fun vs H Q _ => ∃ (sa ba ea : Addr) (us : List V) (S : Sty) (Z : List (List Nat)) (i k j m : Nat), vs = [.ref sa, .ref ba, .ref ea] ∧ SeqH H sa us ∧ LV (ShV S H) us Z ∧ WdsOk S Z ∧ (∀ z ∈ Z, WdOk z) ∧ H ba = some (.tup [nV i, nV k]) ∧ H ea = some (.tup [nV j, nV m]) ∧ i < Z.length ∧ k ≤ nP S (wz Z i) ∧ ((i = j ∧ k < m ∧ m ≤ nP S (wz Z i)) ∨ (i < j ∧ ((j, m) = (Z.length, 0) ∨ (j < Z.length ∧ m ≤ nP S (wz Z j))))) ∧
  ∀ H', Same H H' → natW S Z i k (j, m) ≤ 10000 → Q (nV (natW S Z i k (j, m))) H'
theorem ok_lnat (T : Txt K mg) : FnOk P w K mg base CX0 2 T.a_law_natural T.d_law_natural ["_law_shapes", "_law_start", "_law_end"] spLNat := by
  have G_law_piece_width : FnOk P w K mg base CX0 1 T.a_law_piece_width T.d_law_piece_width ["_law_shape_here", "_law_first", "_law_last"] spPieceWidth := ok_law_pw T
  refine T.D_law_natural.F.ok sc_law_natural (fun vs H Q E h => ?_) (fun cdv A outer s H vs Q E hr h => ?_)
  · obtain ⟨_, _, _, _, _, _, _, _, _, _, rfl, _⟩ := h
    rfl
  · obtain ⟨sa, ba, ea, us, S, Z, i, k, j, m, rfl, es, lv, ok, h16, eb, ee, hi, hk, hjm, q⟩ := h
    have l40 := ok.ln
    have lus := lv.1
    refine ⟨_, (pss_cons (ps_asg (pv 1) (pg_tup (by rfl) (pgs_cons (pg_name (i := 3) sc_law_natural.nd rfl (.inl rfl)) (pgs_cons (pg_name (i := 4) sc_law_natural.nd rfl (.inl rfl)) pgs_nil))))
      (pss_cons (ps_asg (pv 2) (pg_tup (by rfl) (pgs_cons (pg_name (i := 5) sc_law_natural.nd rfl (.inl rfl)) (pgs_cons (pg_name (i := 6) sc_law_natural.nd rfl (.inl rfl)) pgs_nil))))
      (pss_cons (ps_if (pt_cmpR op_eq (pv 3) (pv 5) (nomark _)) (pss_one (ps_ret (pe_call G_law_piece_width (hr.mono (by decide)) (by rfl) T.D_law_piece_width.G T.D_law_piece_width.F.kp T.D_law_piece_width.B .nil pass0 (pa_cons (pe_ix ix_seq (pv 0) (pv 3) (fun _ _ => rfl)) (pa_cons (pv 4) (pa_cons (pv 6) pa_nil)))))) pss_nil)
      (pss_cons (ps_set (i := 7) sc_law_natural.nd rfl (.inl rfl) (pe_op op_add (pe_call G_law_piece_width (hr.mono (by decide)) (by rfl) T.D_law_piece_width.G T.D_law_piece_width.F.kp T.D_law_piece_width.B .nil pass0 (pa_cons (pe_ix ix_seq (pv 0) (pv 3) (fun _ _ => rfl)) (pa_cons (pv 4) (pa_cons pe_int pa_nil)))) (pe_callB (cr_sum (by rfl)) (by rfl) T.n_sum (by decide +kernel) (pa_cons (pe_lc (own := [("_law_word", 8)]) (g := gName 8) (tt := tYes) rfl sc_law_natural.nd (pi_range2 (by rfl) T.n_range (pa_cons (pe_op op_add (pv 3) pe_int) (pa_cons (pv 5) pa_nil))) (blkOk_by (own := [("_law_word", 8)]) (N := ["_law_shapes", "_law_start", "_law_end", "_law_i", "_law_k", "_law_j", "_law_m", "_law_total_here", "_law_word"]) (sc := (defScope s_law_natural)) (by decide +kernel)) (fun _ _ _ _ _ => (pg_name (i := 8) sc_law_natural.nd rfl (.inl rfl))) (fun _ _ _ _ _ => pts_nil) (fun _ _ _ _ _ => (pe_op op_add pe_int (pe_ix (r := rIx K) ix_seq (pe_ix (r := rIx K) ix_seq (pv 0) (pv 8) (fun _ _ => rfl)) pe_int (fun _ _ => rfl))))) pa_nil))))
      (pss_one (ps_ret (pe_ifExp (pt_cmpR op_gt (pv 6) pe_int (nomark _)) (pe_op op_add (pe_op op_add (pv 7) pe_int) (pe_call G_law_piece_width (hr.mono (by decide)) (by rfl) T.D_law_piece_width.G T.D_law_piece_width.F.kp T.D_law_piece_width.B .nil pass0 (pa_cons (pe_ix ix_seq (pv 0) (pv 5) (fun _ _ => rfl)) (pa_cons pe_int (pa_cons (pv 6) pa_nil))))) (pv 7)))))))), ?_⟩
    refine ⟨_, rfl, ba, _, rfl, SqT.of eb, rfl, _, _, rfl, _, _, rfl, rfl, ?_⟩
    refine ⟨_, rfl, ea, _, rfl, SqT.of ee, rfl, _, _, rfl, _, _, rfl, rfl, ?_⟩
    refine ⟨_, rfl, _, rfl, rfl, _, rfl, ?_⟩
    refine ifD (fun c => ?_) (fun c => ?_)
    · have hij : i = j := by have := V.int.inj c; omega
      subst hij
      have hm : k < m ∧ m ≤ nP S (wz Z i) := by
        rcases hjm with h | h
        · exact h.2
        · omega
      obtain ⟨y, ey, sv⟩ := lv.2 i _ (wz_at hi)
      refine ⟨_, rfl, _, rfl, es.rix (atI_nat ey) ⟨_, rfl, _, rfl, y, S, wz Z i, k, m, eA S (wz Z i) k, eA S (wz Z i) m, ?_, sv, ok.st, ok.ne _ (wz_mem hi), hm.1, eA_at (by omega), eA_at (by omega), fun H' s => ?_⟩⟩
      · rw [if_neg (by show ¬ m = nP S (wz Z i) + 1; omega)]; rfl
      · have e : natW S Z i k (i, m) = pieceW S (wz Z i) (eA S (wz Z i) k) (eA S (wz Z i) m) := by
          have hm0 : ¬ m = 0 := by omega
          unfold natW pcW
          rw [if_neg hm0, Nat.sub_self, if_neg hm0]
          show 0 + _ = _
          rw [Nat.zero_add]; rfl
        rw [e] at q
        exact q _ s (Nat.le_trans (pw100 ok.st (h16 _ (wz_mem hi)) (by omega)) (by decide))
    · have hij : i < j := by
        rcases hjm with h | h
        · exact absurd (congrArg (fun n : Nat => V.int (n : Int)) h.1) c
        · exact h.1
      have hjZ : (j, m) = (Z.length, 0) ∨ (j < Z.length ∧ m ≤ nP S (wz Z j)) := by
        rcases hjm with h | h
        · omega
        · exact h.2
      have hjl : j ≤ Z.length := by
        rcases hjZ with h | h
        · exact Nat.le_of_eq (Prod.mk.inj h).1
        · omega
      clear c hjm
      obtain ⟨y, ey, sv⟩ := lv.2 i _ (wz_at hi)
      refine ⟨_, rfl, _, rfl, es.rix (atI_nat ey) ⟨_, rfl, y, S, wz Z i, k, nP S (wz Z i) + 1, eA S (wz Z i) k, eA S (wz Z i) (nP S (wz Z i) + 1), ?_, sv, ok.st, ok.ne _ (wz_mem hi), by omega, eA_at (by omega), eA_at (by omega), fun H1 k1 => ?_⟩⟩
      · rw [if_pos (show nP S (wz Z i) + 1 = (places S (wz Z i)).length + 1 from rfl)]; rfl
      have p1 : pieceW S (wz Z i) (eA S (wz Z i) k) (eA S (wz Z i) (nP S (wz Z i) + 1)) ≤ 100 := pw100 ok.st (h16 _ (wz_mem hi)) (by omega)
      have a1 : ahW S Z i k 1 = pieceW S (wz Z i) (eA S (wz Z i) k) (eA S (wz Z i) (nP S (wz Z i) + 1)) + 1 := by
        show 0 + (pcW S (wz Z (i + 0)) (kkA k 0) 0 + 1) = _
        rw [Nat.zero_add]; rfl
      generalize pieceW S (wz Z i) (eA S (wz Z i) k) (eA S (wz Z i) (nP S (wz Z i) + 1)) = n1 at p1 a1
      have es1 := es.same k1
      have h100 : ∀ w, w < Z.length → pieceW S (wz Z w) 0 (wz Z w).length ≤ 100 := fun w hw => by
        rw [← pieceN_len ok.st]
        exact pieceW_small ok.st _ _ (h16 _ (wz_mem hw)) (Nat.le_refl _)
      refine ⟨_, rfl, _, _, rfl, rfl, _, rfl, ((i : Int) + 1), (j : Int), rfl, by omega, fun D nD => ?_⟩
      refine lc_range (lo := (i : Int) + 1) (n := ((j : Int) - ((i : Int) + 1)).toNat) (fun t H' => Same H1 H' ∧ ∃ ns : List Int, ns.length = t ∧ 0 ≤ ns.sum ∧ ns.sum ≤ 101 * (t : Int) ∧ H' D = some (.lst (ns.map V.int)) ∧ ((ahW S Z i k (t + 1) : Nat) : Int) = (n1 : Int) + ns.sum + 1) ⟨same_upd (Same.refl H1) nD, [], rfl, Int.le_refl _, Int.le_refl _, upd_same, by rw [a1]; show _ = (n1 : Int) + 0 + 1; omega⟩ ?_ ?_
      · rintro t H2 ht ⟨k2, ns, l1, l2, l3, l4, l5⟩
        have hw : i + 1 + t < Z.length := by omega
        obtain ⟨y2, ey2, a2, pa2, vs2, rfl, e1, e2, pl2⟩ := lv.2 (i + 1 + t) _ (wz_at hw)
        have := h100 _ hw
        have k12 := k1.trans k2
        have ei : (i : Int) + 1 + (t : Int) = ((i + 1 + t : Nat) : Int) := by omega
        refine ⟨rfl, _, rfl, _, rfl, (es.same k12).rix (by rw [ei]; exact atI_nat ey2) (rIx_tup (SqT.of (k12 _ _ e1)) rfl ⟨_, _, rfl, rfl, _, l4, ?_, same_mut k2 nD, ns ++ [1 + ((pieceW S (wz Z (i + 1 + t)) 0 (wz Z (i + 1 + t)).length : Nat) : Int)], ?_, ?_, ?_, ?_, ?_⟩)⟩
        · rw [List.length_map, l1]; exact lt_s (by omega)
        · rw [List.length_append, l1]; rfl
        · rw [snocI]; omega
        · rw [snocI]; omega
        · rw [upd_same, List.map_append]; rfl
        · have ea : ahW S Z i k (t + 1 + 1) = ahW S Z i k (t + 1) + (pieceW S (wz Z (i + 1 + t)) 0 (wz Z (i + 1 + t)).length + 1) := by
            show _ + (pcW S (wz Z (i + (t + 1))) (kkA k (t + 1)) 0 + 1) = _
            rw [show i + (t + 1) = i + 1 + t by omega, show kkA k (t + 1) = 0 from if_neg (Nat.succ_ne_zero _), pc_whole]
          rw [ea, snocI]
          omega
      rintro H2 ⟨k2, ns, l1, l2, l3, l4, l5⟩
      rw [show ((j : Int) - ((i : Int) + 1)).toNat + 1 = j - i by omega] at l5
      have l3 : ns.sum ≤ 5000 := by omega
      obtain ⟨sn, hsn⟩ : ∃ sn : Nat, ns.sum = (sn : Int) := ⟨ns.sum.toNat, by omega⟩
      have k12 := k1.trans k2
      refine ⟨D, ns, rfl, SqL.of l4, ?_⟩
      rw [hsn]
      refine ⟨_, _, rfl, rfl, ?_⟩
      refine ⟨_, rfl, _, _, rfl, rfl, _, rfl, ?_⟩
      refine ite2 (fun cm => ?_) (fun cm => ?_)
      · have cm : (0 : Int) < (m : Int) := of_decide_eq_true cm
        have hj : j < Z.length ∧ m ≤ nP S (wz Z j) := by
          rcases hjZ with h | h
          · have := (Prod.mk.inj h).2; omega
          · exact h
        obtain ⟨y2, ey2, sv2⟩ := lv.2 j _ (wz_at hj.1)
        have p2 : pieceW S (wz Z j) (eA S (wz Z j) 0) (eA S (wz Z j) m) ≤ 100 := pw100 ok.st (h16 _ (wz_mem hj.1)) (by omega)
        refine ⟨_, rfl, _, _, rfl, rfl, _, rfl, _, rfl, (es.same k12).rix (atI_nat ey2) ⟨_, rfl, y2, S, wz Z j, 0, m, eA S (wz Z j) 0, eA S (wz Z j) m, ?_, ShV.kt sv2 (fun _ _ e => k12 _ _ e), ok.st, ok.ne _ (wz_mem hj.1), by omega, eA_at (by omega), eA_at (by omega), fun H3 k3 => ?_⟩⟩
        · rw [if_neg (by show ¬ m = nP S (wz Z j) + 1; omega)]; rfl
        · refine ⟨_, _, rfl, rfl, ?_⟩
          have e : natW S Z i k (j, m) = ahW S Z i k (j - i) + pieceW S (wz Z j) (eA S (wz Z j) 0) (eA S (wz Z j) m) := by
            have hm0 : ¬ m = 0 := by omega
            unfold natW pcW
            rw [if_neg hm0, if_neg hm0, show kkA k (j - i) = 0 from if_neg (by omega)]
          rw [e] at q
          generalize pieceW S (wz Z j) (eA S (wz Z j) 0) (eA S (wz Z j) m) = n2 at p2 q
          have := q H3 (k12.trans k3) (by omega)
          exact Eq.mp (congrArg (fun v => Q v H3) (congrArg V.int (by omega))) this
      · have hm0 : m = 0 := by
          have : ¬ (0 : Int) < (m : Int) := fun z => cm (decide_eq_true z)
          omega
        have e : natW S Z i k (j, m) = ahW S Z i k (j - i) - 1 := if_pos hm0
        rw [e] at q
        have := q H2 k12 (by omega)
        exact ⟨_, rfl, Eq.mp (congrArg (fun v => Q v H2) (congrArg V.int (by omega))) this⟩
end
end Vf

set_option Elab.async false
set_option linter.all false
set_option maxRecDepth 100000
set_option maxHeartbeats 4000000
namespace Vf
open PySem PySem.Spec PyProof.Rows L2 TL
theorem pos_lt (S : Sty) (Z : List (List Nat)) : ∀ n, ((List.range n).flatMap (rowL S Z)).Pairwise fun a b => (a.1 = b.1 ∧ a.2 < b.2) ∨ a.1 < b.1
  | 0 => .nil
  | n + 1 => by
    rw [List.range_succ, List.flatMap_append, List.flatMap_cons, List.flatMap_nil, List.append_nil]
    refine List.pairwise_append.mpr ⟨pos_lt S Z n, ?_, fun a ha b hb => .inr ?_⟩
    · unfold rowL
      rw [List.pairwise_map]
      exact (List.pairwise_lt_range).imp fun h => .inl ⟨rfl, h⟩
    · obtain ⟨i, hi, ha⟩ := List.mem_flatMap.mp ha
      obtain ⟨k, _, rfl⟩ := List.mem_map.mp ha
      obtain ⟨m, _, rfl⟩ := List.mem_map.mp hb
      exact List.mem_range.mp hi
theorem pos_lt_all (S : Sty) (Z : List (List Nat)) : (posL S Z).Pairwise fun a b => (a.1 = b.1 ∧ a.2 < b.2) ∨ a.1 < b.1 := by
  refine List.pairwise_append.mpr ⟨pos_lt S Z _, List.pairwise_singleton _ _, fun a ha b hb => .inr ?_⟩
  obtain ⟨i, hi, ha⟩ := List.mem_flatMap.mp ha
  obtain ⟨k, _, rfl⟩ := List.mem_map.mp ha
  rw [List.mem_singleton.mp hb]
  exact List.mem_range.mp hi
theorem pos_is {S : Sty} {Z : List (List Nat)} {y : Nat × Nat} (h : y ∈ posL S Z) : y = (Z.length, 0) ∨ (y.1 < Z.length ∧ y.2 ≤ nP S (wz Z y.1)) := by
  rcases List.mem_append.mp h with h | h
  · obtain ⟨i, hi, ha⟩ := List.mem_flatMap.mp h
    obtain ⟨k, hk, rfl⟩ := List.mem_map.mp ha
    exact .inr ⟨List.mem_range.mp hi, Nat.le_of_lt_succ (List.mem_range.mp hk)⟩
  · exact .inl (List.mem_singleton.mp h)
/-- two places of the net, the one before the other -/
theorem pos_two {S : Sty} {Z : List (List Nat)} {a b : Nat} {x y : Nat × Nat} (hab : a < b) (ha : (posL S Z)[a]? = some x) (hb : (posL S Z)[b]? = some y) :
    x.1 < Z.length ∧ x.2 ≤ nP S (wz Z x.1) ∧ ((x.1 = y.1 ∧ x.2 < y.2 ∧ y.2 ≤ nP S (wz Z x.1)) ∨ (x.1 < y.1 ∧ ((y.1, y.2) = (Z.length, 0) ∨ (y.1 < Z.length ∧ y.2 ≤ nP S (wz Z y.1))))) := by
  obtain ⟨la, rfl⟩ := List.getElem?_eq_some_iff.mp ha
  obtain ⟨lb, rfl⟩ := List.getElem?_eq_some_iff.mp hb
  have p := List.pairwise_iff_getElem.mp (pos_lt_all S Z) a b la lb hab
  have hx := pos_is (List.getElem_mem la)
  have hy := pos_is (List.getElem_mem lb)
  generalize (posL S Z)[a] = x at *
  generalize (posL S Z)[b] = y at *
  obtain ⟨i, k⟩ := x
  obtain ⟨j, m⟩ := y
  simp only [Prod.mk.injEq] at hx hy p ⊢
  rcases p with ⟨rfl, h⟩ | h
  · rcases hy with ⟨_, rfl⟩ | hy
    · omega
    · exact ⟨hy.1, by omega, .inl ⟨rfl, h, hy.2⟩⟩
  · rcases hx with ⟨rfl, _⟩ | hx
    · rcases hy with ⟨rfl, _⟩ | hy <;> omega
    · exact ⟨hx.1, hx.2, .inr ⟨h, hy⟩⟩
section
variable {P : Program} {w : World} {K : PySem.W.Frag} {mg : Str → Option Value} {base : Heap}
def spMeas : Sp := fun vs H Q _ => ∃ (d l sa : Addr) (us : List V) (S : Sty) (Z : List (List Nat)), vs = [.ref d, .ref sa] ∧ DI d l H ∧ sa ≠ d ∧ H sa = some (.lst us) ∧ LV (ShV S H) us Z ∧ WdsOk S Z ∧ (∀ z ∈ Z, WdOk z) ∧ 0 < Z.length ∧
  ∀ H' n, Kp d H H' → DI d l H' → n ≤ 10000 → Q (nV n) H'
theorem ok_meas (T : Txt K mg) : FnOk P w K mg base CX0 3 T.a_law_measure T.d_law_measure ["_law_d", "_law_shapes"] spMeas := by
  have G_law_draw : FnOk P w K mg base CX0 1 T.a_law_draw T.d_law_draw ["_law_d", "_law_many"] spDraw := ok_draw T
  have G_law_pick : FnOk P w K mg base CX0 2 T.a_law_pick T.d_law_pick ["_law_d", "_law_row"] (spPick K) := ok_pick T
  have G_law_positions : FnOk P w K mg base CX0 1 T.a_law_positions T.d_law_positions ["_law_shapes"] spLPos := ok_lpos T
  have G_law_natural : FnOk P w K mg base CX0 2 T.a_law_natural T.d_law_natural ["_law_shapes", "_law_start", "_law_end"] spLNat := ok_lnat T
  refine T.D_law_measure.F.ok sc_law_measure (fun vs H Q E h => ?_) (fun cdv A outer s H vs Q E hr h => ?_)
  · obtain ⟨_, _, _, _, _, _, rfl, _⟩ := h
    rfl
  · obtain ⟨d, l, sa, us, S, Z, rfl, hD, nsd, es, lv, ok, h16, h0, q⟩ := h
    have l40 := ok.ln
    have lus := lv.1
    have h100 : ∀ w, w < Z.length → pieceW S (wz Z w) 0 (wz Z w).length ≤ 100 := fun w hw => by
      rw [← pieceN_len ok.st]
      exact pieceW_small ok.st _ _ (h16 _ (wz_mem hw)) (Nat.le_refl _)
    refine ⟨_, (pss_cons (ps_set (i := 2) sc_law_measure.nd rfl (.inl rfl) (pe_callB (cr_max (by rfl)) (by rfl) T.n_max (by decide +kernel) (pa_cons (pe_lc (own := [("_law_shape_here", 10)]) (g := gName 10) (tt := tYes) rfl sc_law_measure.nd (pi_list (pv 1)) (blkOk_by (own := [("_law_shape_here", 10)]) (N := ["_law_d", "_law_shapes", "_law_widest", "_law_total_here", "_law_places_here", "_law_first", "_law_behind", "_law_line", "_law_more", "_law_menu", "_law_shape_here"]) (sc := (defScope s_law_measure)) (by decide +kernel)) (fun _ _ _ _ _ => (pg_name (i := 10) sc_law_measure.nd rfl (.inl rfl))) (fun _ _ _ _ _ => pts_nil) (fun _ _ _ _ _ => (pe_ix (r := rIxT K) ix_tup (pv 10) pe_int (fun _ _ => rfl)))) pa_nil)))
      (pss_cons (ps_set (i := 3) sc_law_measure.nd rfl (.inl rfl) (pe_op op_sub (pe_callB (cr_sum (by rfl)) (by rfl) T.n_sum (by decide +kernel) (pa_cons (pe_lc (own := [("_law_shape_here", 10)]) (g := gName 10) (tt := tYes) rfl sc_law_measure.nd (pi_list (pv 1)) (blkOk_by (own := [("_law_shape_here", 10)]) (N := ["_law_d", "_law_shapes", "_law_widest", "_law_total_here", "_law_places_here", "_law_first", "_law_behind", "_law_line", "_law_more", "_law_menu", "_law_shape_here"]) (sc := (defScope s_law_measure)) (by decide +kernel)) (fun _ _ _ _ _ => (pg_name (i := 10) sc_law_measure.nd rfl (.inl rfl))) (fun _ _ _ _ _ => pts_nil) (fun _ _ _ _ _ => (pe_op op_add (pe_ix (r := rIxT K) ix_tup (pv 10) pe_int (fun _ _ => rfl)) pe_int))) pa_nil)) pe_int))
      (pss_cons (ps_set (i := 4) sc_law_measure.nd rfl (.inl rfl) (pe_call G_law_positions (hr.mono (by decide)) (by rfl) T.D_law_positions.G T.D_law_positions.F.kp T.D_law_positions.B .nil pass0 (pa_cons (pv 1) pa_nil)))
      (pss_cons (ps_set (i := 5) sc_law_measure.nd rfl (.inl rfl) (pe_call G_law_draw (hr.mono (by decide)) (by rfl) T.D_law_draw.G T.D_law_draw.F.kp T.D_law_draw.B .nil pass0 (pa_cons (pv 0) (pa_cons (pe_op op_sub (pe_callB call_len_seq (by rfl) T.n_len PySem.boot_len (pa_cons (pv 4) pa_nil)) pe_int) pa_nil))))
      (pss_cons (ps_set (i := 6) sc_law_measure.nd rfl (.inl rfl) (pe_op op_add (pe_op op_add (pv 5) pe_int) (pe_call G_law_draw (hr.mono (by decide)) (by rfl) T.D_law_draw.G T.D_law_draw.F.kp T.D_law_draw.B .nil pass0 (pa_cons (pv 0) (pa_cons (pe_op op_sub (pe_op op_sub (pe_callB call_len_seq (by rfl) T.n_len PySem.boot_len (pa_cons (pv 4) pa_nil)) pe_int) (pv 5)) pa_nil)))))
      (pss_cons (ps_set (i := 7) sc_law_measure.nd rfl (.inl rfl) (pe_call G_law_natural (hr.mono (by decide)) (by rfl) T.D_law_natural.G T.D_law_natural.F.kp T.D_law_natural.B .nil pass0 (pa_cons (pv 1) (pa_cons (pe_ix ix_list (pv 4) (pv 5) (fun _ _ => rfl)) (pa_cons (pe_ix ix_list (pv 4) (pv 6) (fun _ _ => rfl)) pa_nil)))))
      (pss_cons (ps_set (i := 8) sc_law_measure.nd rfl (.inl rfl) (pe_op op_add (pe_op op_add (pv 2) pe_int) (pe_call G_law_draw (hr.mono (by decide)) (by rfl) T.D_law_draw.G T.D_law_draw.F.kp T.D_law_draw.B .nil pass0 (pa_cons (pv 0) (pa_cons pe_int pa_nil)))))
      (pss_cons (ps_set (i := 9) sc_law_measure.nd rfl (.inl rfl) (pe_lst (pa_cons (pv 2) (pa_cons (pe_callB (call_max2 (by rfl)) (by rfl) T.n_max (by decide +kernel) (pa_cons pe_int (pa_cons (pe_op op_sub (pv 2) pe_int) pa_nil))) (pa_cons (pe_op op_add (pe_op op_fdivN (pv 2) pe_int) pe_int) (pa_cons (pv 3) (pa_cons (pe_callB (call_max2 (by rfl)) (by rfl) T.n_max (by decide +kernel) (pa_cons pe_int (pa_cons (pe_op op_sub (pv 3) pe_int) pa_nil))) (pa_cons (pe_callB (call_max2 (by rfl)) (by rfl) T.n_max (by decide +kernel) (pa_cons (pv 2) (pa_cons (pe_op op_fdivN (pv 3) pe_int) pa_nil))) (pa_cons (pv 7) (pa_cons (pv 7) pa_nil))))))))))
      (pss_one (ps_ret (pe_call G_law_pick (hr.mono (by decide)) (by rfl) T.D_law_pick.G T.D_law_pick.F.kp T.D_law_pick.B .nil pass0 (pa_cons (pv 0) (pa_cons (pe_op op_cat (pv 9) (pe_lst (pa_cons (pv 8) (pa_cons (pv 8) (pa_cons (pe_op op_add pe_int (pe_call G_law_draw (hr.mono (by decide)) (by rfl) T.D_law_draw.G T.D_law_draw.F.kp T.D_law_draw.B .nil pass0 (pa_cons (pv 0) (pa_cons pe_int pa_nil)))) pa_nil))))) pa_nil))))))))))))), ?_⟩
    refine ⟨_, rfl, sa, rfl, ⟨_, SqL.of es⟩, fun D nD => ?_⟩
    refine lc_list (K := K) (a := sa) (xs := us) (fun t H' => Same H H' ∧ ∃ ns : List Int, ns.length = t ∧ (∀ y ∈ ns, 0 ≤ y ∧ y ≤ 100) ∧ H' D = some (.lst (ns.map V.int))) ⟨same_upd (Same.refl H) nD, [], rfl, (fun _ h => nomatch h), upd_same⟩ ?_ ?_ ?_
    · rintro i H' _ ⟨k, _⟩
      exact SqL.of (k _ _ es)
    · rintro t x H' hx ⟨k2, ns, l1, l2, l4⟩
      obtain ⟨z, ez, a2, pa2, vs2, rfl, e1, e2, pl2⟩ := lv.at hx
      have ht := (List.getElem?_eq_some_iff.mp hx).1
      refine ⟨rfl, _, rfl, a2, _, _, _, rfl, rfl, SqT.of (k2 _ _ e1), rfl, _, l4, by rw [List.length_map, l1]; exact lt_s (by omega), same_mut k2 nD, _, ?_, ?_, by rw [upd_same]; exact congrArg (fun y => some (HO.lst y)) (List.map_append (l₂ := [((pieceW S z 0 z.length : Nat) : Int)])).symm⟩
      · rw [List.length_append, l1]; rfl
      · intro y hy
        rcases List.mem_append.mp hy with hy | hy
        · exact l2 y hy
        · rw [List.mem_singleton.mp hy]
          have : pieceW S z 0 z.length ≤ 100 := by
            rw [← pieceN_len ok.st]
            exact pieceW_small ok.st _ _ (h16 _ (List.mem_of_getElem? ez)) (Nat.le_refl _)
          omega
    rintro H1 ⟨k1, ns, l1, l2, l4⟩
    refine ⟨D, ns, rfl, SqL.of l4, by omega, fun wi hwi _ => ?_⟩
    have hw := l2 wi hwi
    obtain ⟨w0, rfl⟩ : ∃ w0 : Nat, wi = (w0 : Int) := ⟨wi.toNat, by omega⟩
    refine ⟨_, rfl, sa, rfl, ⟨_, SqL.of (k1 _ _ es)⟩, fun D2 nD2 => ?_⟩
    refine lc_list (K := K) (a := sa) (xs := us) (fun t H' => Same H1 H' ∧ ∃ ns : List Int, ns.length = t ∧ (t : Int) ≤ ns.sum ∧ ns.sum ≤ 101 * (t : Int) ∧ H' D2 = some (.lst (ns.map V.int))) ⟨same_upd (Same.refl H1) nD2, [], rfl, Int.le_refl _, Int.le_refl _, upd_same⟩ ?_ ?_ ?_
    · rintro i H' _ ⟨k, _⟩
      exact SqL.of (k _ _ (k1 _ _ es))
    · rintro t x H' hx ⟨k2, ns, l1, l2, l3, l4⟩
      obtain ⟨z, ez, a2, pa2, vs2, rfl, e1, e2, pl2⟩ := lv.at hx
      have ht := (List.getElem?_eq_some_iff.mp hx).1
      have hp : pieceW S z 0 z.length ≤ 100 := by
        rw [← pieceN_len ok.st]
        exact pieceW_small ok.st _ _ (h16 _ (List.mem_of_getElem? ez)) (Nat.le_refl _)
      refine ⟨rfl, _, rfl, a2, _, _, _, rfl, rfl, SqT.of (k2 _ _ (k1 _ _ e1)), rfl, _, _, rfl, rfl, _, l4, by rw [List.length_map, l1]; exact lt_s (by omega), same_mut k2 nD2, ns ++ [((pieceW S z 0 z.length : Nat) : Int) + 1], by rw [List.length_append, l1]; rfl, by rw [snocI]; omega, by rw [snocI]; omega, by rw [upd_same, List.map_append]; rfl⟩
    rintro H2 ⟨k2, ns2, m1, m2, m3, m4⟩
    have m2 : (us.length : Int) ≤ ns2.sum := m2
    have m3 : ns2.sum ≤ 101 * (us.length : Int) := m3
    refine ⟨D2, ns2, rfl, SqL.of m4, _, _, rfl, rfl, ?_⟩
    obtain ⟨tt, htt, htb⟩ : ∃ tt : Nat, ns2.sum = (tt : Int) + 1 ∧ tt ≤ 5000 := ⟨(ns2.sum - 1).toNat, by omega, by omega⟩
    have k12 := k1.trans k2
    have D2' := hD.keep k12
    refine ⟨_, rfl, sa, us, S, Z, rfl, .inr (k12 _ _ es), lv.mono fun _ _ z => ShV.kt z fun _ _ e => k12 _ _ e, ok, fun H3 PP pv k3 nPP ePP lp => ?_⟩
    have lN := lp.1
    have hN := posL_len (S := S) (Z := Z) ok
    have hN2 : 2 ≤ (posL S Z).length := by
      obtain ⟨b, hb⟩ := pos_has (S := S) (Z := Z) (y := (0, 0)) (.inr ⟨h0, Nat.zero_le _⟩)
      obtain ⟨c, hc⟩ := pos_has (S := S) (Z := Z) (y := (Z.length, 0)) (.inl rfl)
      have h1 := (List.getElem?_eq_some_iff.mp hb).1
      have h2 := (List.getElem?_eq_some_iff.mp hc).1
      have hne : b ≠ c := fun z => by
        rw [z, hc] at hb
        have := (Prod.mk.inj (Option.some.inj hb)).1
        omega
      omega
    have k13 := k12.trans k3
    have D3 := hD.keep k13
    have KA : Kp d H H3 := fun b o _ e => k13 b o e
    refine ⟨_, rfl, _, rfl, PP, pv, rfl, .inl (SqL.of ePP), _, _, rfl, rfl, d, l, _, rfl, D3, by show ((pv.length : Int) - 1) ≤ _; omega, fun H4 r K4 D4 r1 r2 => ?_⟩
    obtain ⟨f, rfl, hf⟩ : ∃ f : Nat, r = (f : Int) ∧ f + 1 < (posL S Z).length := by
      by_cases c : (2 : Int) ≤ (pv.length : Int) - 1
      · have := r2 c; exact ⟨r.toNat, by omega, by omega⟩
      · exact ⟨0, r1 (by show (pv.length : Int) - 1 < 2; omega), by omega⟩
    have nPd : PP ≠ d := (D2'.nd nPP).1
    have eP4 := K4 _ _ nPd ePP
    refine ⟨_, rfl, _, _, rfl, rfl, _, rfl, _, rfl, PP, pv, rfl, .inl (SqL.of eP4), _, _, rfl, rfl, _, rfl, _, _, rfl, rfl, d, l, _, rfl, D4, by show ((pv.length : Int) - 1 - (f : Int)) ≤ _; omega, fun H5 r K5 D5 r1 r2 => ?_⟩
    obtain ⟨g, rfl, hg⟩ : ∃ g : Nat, r = (g : Int) ∧ f + 1 + g < (posL S Z).length := by
      by_cases c : (2 : Int) ≤ (pv.length : Int) - 1 - (f : Int)
      · have := r2 c; exact ⟨r.toNat, by omega, by omega⟩
      · exact ⟨0, r1 (by show (pv.length : Int) - 1 - (f : Int) < 2; omega), by omega⟩
    refine ⟨_, _, rfl, rfl, ?_⟩
    have eP5 := K5 _ _ nPd eP4
    have gf : (posL S Z)[f]? = some (posL S Z)[f] := List.getElem?_eq_getElem (by omega)
    have gb : (posL S Z)[f + 1 + g]? = some (posL S Z)[f + 1 + g] := List.getElem?_eq_getElem hg
    obtain ⟨xf, exf, pf, rfl, epf⟩ := lp.2 f _ gf
    obtain ⟨xb, exb, pb, rfl, epb⟩ := lp.2 (f + 1 + g) _ gb
    have two := pos_two (by omega) gf gb
    have K35 := K4.trans K5
    have K15 := KA.trans K35
    have tup5 : ∀ a xs, H a = some (.tup xs) → H5 a = some (.tup xs) := fun a xs e => K15 _ _ (hD.neT e) e
    refine ⟨_, rfl, _, rfl, _, rfl, PP, pv, _, _, rfl, rfl, SqL.of eP5, atI_nat exf, _, rfl, _, rfl, PP, pv, _, _, rfl, rfl, SqL.of eP5, (congrArg (atI pv) (show ((f : Int) + 1) + (g : Int) = ((f + 1 + g : Nat) : Int) by omega)).trans (atI_nat exb), sa, pf, pb, us, S, Z, _, _, _, _, rfl, .inr (K15 _ _ nsd es), lv.mono fun _ _ z => ShV.kt z tup5, ok, h16, K35 _ _ (D3.neT epf) epf, K35 _ _ (D3.neT epb) epb, two.1, two.2.1, two.2.2, fun H6 k6 hnl => ?_⟩
    generalize natW S Z (posL S Z)[f].1 (posL S Z)[f].2 ((posL S Z)[f + 1 + g].1, (posL S Z)[f + 1 + g].2) = nl at hnl ⊢
    have D6 := D5.keep k6
    refine ⟨_, rfl, _, _, rfl, rfl, _, rfl, d, l, 8, rfl, D6, by decide, fun H7 r7 K7 D7 _ p7 => ?_⟩
    have p7 := p7 (by decide)
    refine ⟨_, _, rfl, rfl, ?_⟩
    refine ⟨_, rfl, _, rfl, _, _, rfl, rfl, _, _, rfl, _, rfl, _, _, rfl, rfl, ⟨by decide, by decide⟩, _, _, rfl, rfl, _, rfl, _, rfl, _, _, rfl, rfl, _, _, rfl, _, rfl, _, rfl, _, _, rfl, rfl, ⟨by decide, by decide⟩, _, _, rfl, _, rfl, _, rfl, Nat.le_of_lt (lt_s (by show _ < 100000; simp)), fun p np => ?_⟩
    have ndp := D7.nd np
    refine ⟨_, rfl, _, rfl, _, rfl, _, rfl, _, rfl, d, l, 24, rfl, D7.new np, by decide, fun H8 r8 K8 D8 _ p8 => ?_⟩
    have p8 := p8 (by decide)
    have ep8 := K8 _ _ ndp.1 upd_same
    refine ⟨_, _, rfl, rfl, Nat.le_of_lt (lt_s (by show _ < 100000; simp)), fun p2 np2 => ?_⟩
    have k2' := same_upd (o := .lst [V.int ((w0 : Int) + 1 + r7), V.int ((w0 : Int) + 1 + r7), V.int (1 + r8)]) (Same.refl H8) np2
    refine ⟨p, p2, _, _, rfl, rfl, k2' _ _ ep8, upd_same, by show 11 ≤ sizeLine; decide, fun p3 np3 => ?_⟩
    have D9 := D8.keep k2'
    refine ⟨d, l, _, _, rfl, D9.new np3, .inl ⟨p3, rfl, (D9.nd np3).1, SqL.of upd_same⟩, by simp, by simp, fun H9 v K9 D9' hv => ?_⟩
    obtain ⟨n, rfl, hn⟩ : ∃ n : Nat, v = nV n ∧ n ≤ 10000 := by
      have big : ∀ e : Int, 0 ≤ e → e ≤ 10000 → ∃ n : Nat, V.int e = nV n ∧ n ≤ 10000 := fun e a b => ⟨e.toNat, congrArg V.int (by omega), by omega⟩
      have f2 : ∀ e : Int, 0 ≤ e → 0 ≤ e.fdiv 2 ∧ e.fdiv 2 ≤ e := fun e he => by rw [Int.fdiv_eq_ediv_of_nonneg _ (by decide)]; omega
      have fw := f2 w0 (by omega)
      have ft := f2 (ns2.sum - 1) (by omega)
      simp only [List.mem_append, List.mem_cons, List.not_mem_nil, or_false] at hv
      rcases hv with (rfl | rfl | rfl | rfl | rfl | rfl | rfl | rfl) | rfl | rfl | rfl
      all_goals first | exact ⟨_, rfl, by omega⟩ | exact big _ (by omega) (by omega) | exact big _ (by split <;> omega) (by split <;> omega)
    have Kx : Kp d H H8 := ((K15.trans (fun b o _ e => k6 b o e : Kp d H5 H6)).trans (K7.new np)).trans K8
    exact q H9 n ((Kx.trans (fun b o _ e => k2' b o e)).trans ((Kp.refl d _).new np3 |>.trans K9)) D9' hn
end
end Vf

set_option Elab.async false
set_option linter.all false
set_option maxRecDepth 100000
set_option maxHeartbeats 4000000
namespace Vf
open PySem PySem.Spec PyProof.Rows L2 TL
theorem nP_dw (S : Sty) (z : List Nat) : nP S z ≤ z.length - 1 := by
  unfold nP places
  have h1 := List.length_filterMap_le (fun k => (look S.B (z.getD (k - 1) 0, z.getD k 0)).map fun p => (k, p)) (List.range' 2 (z.length - 3))
  rw [List.length_range'] at h1
  omega
theorem posR_len (S : Sty) (Z : List (List Nat)) : ∀ n, n ≤ Z.length → ((List.range n).flatMap (rowL S Z)).length ≤ sumTo Z n + n
  | 0, _ => Nat.zero_le _
  | n + 1, h => by
    have ih := posR_len S Z n (by omega)
    have h1 := nP_dw S (wz Z n)
    have h2 : (rowL S Z n).length = nP S (wz Z n) + 1 := by unfold rowL; rw [List.length_map, List.length_range]
    rw [List.range_succ, List.flatMap_append, List.flatMap_cons, List.flatMap_nil, List.append_nil, List.length_append, sumTo_succ (wz_at (show n < Z.length from h)), h2]
    omega
theorem posL_dw {S : Sty} {Z : List (List Nat)} (h : DwOk Z) : (posL S Z).length ≤ 91 := by
  have h1 := posR_len S Z Z.length (Nat.le_refl _)
  have h2 := sumTo_le (Z := Z) (i := Z.length)
  have h3 := h.sm
  have h4 := h.ln
  unfold posL
  rw [List.length_append]
  show _ + 1 ≤ 91
  omega
theorem netQ_dw {M L : Nat} {S : Sty} {Z : List (List Nat)} (h : (posL S Z).length ≤ 91) (ok : WdsOk S Z) : (netQ M L S Z).length ≤ 100000 := by
  have g : ∀ n, ((List.range n).flatMap (rowQ M L S Z)).length ≤ n * 801 := fun n => by
    induction n with
    | zero => exact Nat.zero_le _
    | succ n ih =>
      have h2 : (rowQ M L S Z n).length ≤ 801 := by
        unfold rowQ linesF
        rw [List.length_map, List.length_map]
        exact ends_flen ok
      rw [List.range_succ, List.flatMap_append, List.flatMap_cons, List.flatMap_nil, List.append_nil, List.length_append]
      omega
  have := g ((posL S Z).length - 1)
  unfold netQ
  omega
theorem DwOk.wds {S : Sty} {Z : List (List Nat)} (h : DwOk Z) (st : StyOk S) : WdsOk S Z := ⟨st, h.ne, fun z hz => Nat.le_trans (places_len S z) (h.wd z hz).len, Nat.le_trans h.ln (by decide)⟩
def RwQ (H : Hp) (x : V) : Prop := ∃ (b sa pd pp np t : Addr) (us pus nus : List V) (S : Sty) (Z : List (List Nat)) (M L : Nat), x = .ref b ∧ H b = some (.tup [.ref sa, nV M, nV L, .ref pd]) ∧ H sa = some (.tup us) ∧ LV (ShV S H) us Z ∧ WdsOk S Z ∧ (posL S Z).length ≤ 91 ∧ M ≤ 1000000 ∧ H pd = some (.tup [.ref pp, .ref np]) ∧ H pp = some (.tup pus) ∧ LV (FgV H) pus (posL S Z) ∧ H np = some (.tup [nV (posL S Z).length, .ref t]) ∧ H t = some (.tup nus) ∧ LV (ArcV H) nus (netQ M L S Z)
theorem RwQ.kt {H H' : Hp} {x : V} (h : RwQ H x) (k : ∀ a xs, H a = some (.tup xs) → H' a = some (.tup xs)) : RwQ H' x := by
  obtain ⟨b, sa, pd, pp, np, t, us, pus, nus, S, Z, M, L, h1, h2, h3, h4, h5, h6, h7, h8, h9, h10, h11, h12, h13⟩ := h
  exact ⟨b, sa, pd, pp, np, t, us, pus, nus, S, Z, M, L, h1, k _ _ h2, k _ _ h3, h4.mono fun _ _ z => z.kt k, h5, h6, h7, k _ _ h8, k _ _ h9, h10.mono fun _ _ z => z.kt k, k _ _ h11, k _ _ h12, h13.mono fun _ _ z => z.mono k⟩
section
variable {P : Program} {w : World} {K : PySem.W.Frag} {mg : Str → Option Value} {base : Heap}
def spDrows : Sp := fun vs H Q _ => ∃ (d l : Addr), vs = [.ref d] ∧ DI d l H ∧ ∀ H' L us, Kp d H H' → DI d l H' → H L = none → H' L = some (.lst us) → us.length = 2 → (∀ x ∈ us, RwQ H' x) → Q (.ref L) H'
end
end Vf

set_option Elab.async false
set_option linter.all false
set_option maxRecDepth 100000
set_option maxHeartbeats 4000000
namespace Vf
open PySem PySem.Spec PyProof.Rows L2 TL
theorem cut_take (us : List V) (n : Nat) : cutV us none (some (n : Int)) = us.take n := by
  unfold cutV
  rw [HT.sIx_none, HT.sIx_nat, List.drop_zero, Nat.sub_zero]
  by_cases c : n ≤ us.length
  · rw [Nat.min_eq_left c]
  · rw [Nat.min_eq_right (by omega), List.take_length, List.take_of_length_le (by omega)]
theorem eqI {H : Hp} {n : Nat} {i : Int} : Eqv (n + 1) H (.int i) (.int i) := .inl (.inr (.inl ⟨i, rfl, rfl⟩))
theorem eqPairs {H : Hp} {n : Nat} {a b : Addr} {us vs : List V} {rs : List (Nat × Nat)} (ea : H a = some (.tup us)) (eb : H b = some (.tup vs)) (la : LV (FgV H) us rs) (lb : LV (FgV H) vs rs) (ln : rs.length ≤ 100000) : Eqv (n + 3) H (.ref a) (.ref b) := by
  refine .inr ⟨a, b, us, vs, rfl, rfl, ea, eb, by rw [la.1, lb.1], by rw [la.1]; exact ln, fun i x y hx hy => ?_⟩
  obtain ⟨r, er, c, rfl, ec⟩ := la.at hx
  obtain ⟨r2, er2, d, rfl, ed⟩ := lb.at hy
  rw [er] at er2
  have er2 := Option.some.inj er2
  subst er2
  refine .inr ⟨c, d, _, _, rfl, rfl, ec, ed, rfl, by show 2 ≤ _; omega, fun j u v hu hv => ?_⟩
  match j, hu, hv with
  | 0, hu, hv =>
    rw [← Option.some.inj hu, ← Option.some.inj hv]; exact eqI
  | 1, hu, hv =>
    rw [← Option.some.inj hu, ← Option.some.inj hv]; exact eqI
  | j + 2, hu, _ => cases hu
theorem eqNet {H : Hp} {p q t s : Addr} {n : Nat} {us vs : List V} {rs : List (Nat × Nat × Nat)} (h1 : H p = some (.tup [nV n, .ref t])) (h2 : H t = some (.tup us)) (h3 : LV (ArcV H) us rs) (g1 : H q = some (.tup [nV n, .ref s])) (g2 : H s = some (.tup vs)) (g3 : LV (ArcV H) vs rs) (ln : rs.length ≤ 100000) : Eqv 4 H (.ref p) (.ref q) := by
  refine .inr ⟨p, q, _, _, rfl, rfl, h1, g1, rfl, by show 2 ≤ _; omega, fun i x y hx hy => ?_⟩
  match i, hx, hy with
  | 0, hx, hy =>
    rw [← Option.some.inj hx, ← Option.some.inj hy]; exact eqI
  | 1, hx, hy =>
    rw [← Option.some.inj hx, ← Option.some.inj hy]
    refine .inr ⟨t, s, us, vs, rfl, rfl, h2, g2, by rw [h3.1, g3.1], by rw [h3.1]; exact ln, fun i x y hx hy => ?_⟩
    obtain ⟨r, er, c, rfl, ec⟩ := h3.at hx
    obtain ⟨r2, er2, d, rfl, ed⟩ := g3.at hy
    rw [er] at er2
    have er2 := Option.some.inj er2
    subst er2
    refine .inr ⟨c, d, _, _, rfl, rfl, ec, ed, rfl, by show 3 ≤ _; omega, fun j u v hu hv => ?_⟩
    match j, hu, hv with
    | 0, hu, hv =>
      rw [← Option.some.inj hu, ← Option.some.inj hv]; exact eqI
    | 1, hu, hv =>
      rw [← Option.some.inj hu, ← Option.some.inj hv]; exact eqI
    | 2, hu, hv =>
      rw [← Option.some.inj hu, ← Option.some.inj hv]; exact eqI
    | j + 3, hu, _ => cases hu
  | i + 2, hx, _ => cases hx
end Vf

set_option Elab.async false
set_option linter.all false
set_option maxRecDepth 100000
set_option maxHeartbeats 4000000
namespace Vf
open PySem PySem.Spec PyProof.Rows L2 TL LamX
/-! ### a lambda with one parameter -/
/-- one local, the parameter p, at the maker's slot ip; all else captured or global -/
structure LamP (sc scope : Scope) (N : List Str) (p : Str) (ip : Nat) : Prop where
  kind : scope.kind = .function
  co : scope.isCoroutine = false
  gen : scope.isGenerator = false
  nocell : ∀ y ∈ scope.names, y.2 ≠ .cell
  loc : ∀ y ∈ scope.names, y.2 = .local → y.1 = p
  par : scope.names.lookup p = some .local
  free : ∀ y ∈ scope.names, y.2 = .free → sc.names.lookup y.1 = some .cell ∨ sc.names.lookup y.1 = some .free
  nd : N.Nodup
  at_ : N[ip]? = some p
theorem LamP.has {X : Cx} {scope : Scope} {N : List Str} {p : Str} {ip : Nat} (L : LamP X.env.scope scope N p ip) (ok : X.Ok) : ∀ y ∈ scope.names, y.2 = .free → ∃ c, X.env.cells.lookup y.1 = some c := fun y hy e =>
  (L.free y hy e).elim (fun k => ok.has _ (.inl k)) (fun k => ok.has _ (.inr k))
def lamPB (sc scope : Scope) (N : List Str) (p : Str) (ip : Nat) : Bool :=
  decide (scope.kind = .function) && (!scope.isCoroutine && (!scope.isGenerator && (decide (scope.names.lookup p = some .local) && (decide (N[ip]? = some p) && (decide N.Nodup &&
    scope.names.all fun y => !decide (y.2 = .cell) && ((!decide (y.2 = .local) || decide (y.1 = p)) && (!decide (y.2 = .free) || (decide (sc.names.lookup y.1 = some .cell) || decide (sc.names.lookup y.1 = some .free)))))))))
theorem lamP_by {sc scope : Scope} {N : List Str} {p : Str} {ip : Nat} (h : lamPB sc scope N p ip = true) : LamP sc scope N p ip := by
  unfold lamPB at h
  simp only [Bool.and_eq_true, Bool.or_eq_true, Bool.not_eq_true', decide_eq_true_eq, decide_eq_false_iff_not, List.all_eq_true] at h
  obtain ⟨h1, h2, h3, h4, h5, h6, h7⟩ := h
  exact { kind := h1, co := h2, gen := h3, nocell := fun y hy => (h7 y hy).1, loc := fun y hy e => (h7 y hy).2.1.resolve_left (fun z => z e), par := h4,
          free := fun y hy e => (h7 y hy).2.2.resolve_left (fun z => z e), nd := h6, at_ := h5 }
section
variable {X : Cx} {pins : List (Addr × Obj)} {σ : L2.St} {H HZ : Hp} {s s1 : Shared}
/-- the body's start: the parameter's slot holds the argument -/
theorem lam_startP {A : Around} {outer : List Env} {E : XK} {scope : Scope} {f c' : Addr} {h₁ : Heap} {tk : Nat} {p : Str} {ip : Nat} {v : V} {u : Value} (I : Inv X pins σ H s) (L : LamP X.env.scope scope X.N p ip) (ru : RelV v u) (e0 : Env0 X.prog X.w X.K X.mg X.base A outer s1 HZ) (hd : A.handled = none)
    {fs : List Addr} (un : Un fs [] H HZ s.heap s1.heap) (hns : h₁.Ns s1.heap.objs.size fun y => ([(p, u)] : List (Str × Value)).reverse.lookup y) (kp : ∀ b o, s1.heap.get? b = some o → h₁.get? b = some o) :
    Inv (lamCx X A outer s1 HZ E scope f c') [] (σ.set ip (some v)) HZ { s1 with heap := h₁, toks := tk } := by
  have hfree := L.has I.ok
  have up : ∀ {y c}, (cloFrom X.env.cells scope.names []).lookup y = some c → X.env.cells.lookup y = some c := fun {y c} e => by
    rcases cloFrom_mem (PySem.mem_of_lookup e) with hm | ⟨h1, h2⟩
    · cases hm
    · obtain ⟨c1, hc⟩ := hfree _ h1 rfl
      have hc : X.env.cells.lookup y = some c1 := hc
      have e2 : c = c1 := by rw [h2, hc]; rfl
      rw [e2]; exact hc
  have look : ∀ {y}, scope.names.lookup y = some .free → ∃ c, (cloFrom X.env.cells scope.names []).lookup y = some c := fun {y} hl =>
    mem_lookup (cloFrom_has (cells := X.env.cells) (acc := []) (show (y, NameKind.free) ∈ scope.names from PySem.mem_of_lookup hl))
  have cellK : ∀ {c : Addr} {v : Option Value}, H c = none → s.heap.IsCell c v → h₁.IsCell c v := fun {c v} n ⟨o, ho, hd⟩ => by
    obtain ⟨sl, q⟩ := un.any ho n (by simp)
    exact ⟨_, kp _ _ q, hd⟩
  have noA : ∀ b : Addr, b ∉ (lamCx X A outer s1 HZ E scope f c').ex := fun b z => absurd (show b ∈ ([] : List Addr) from z) (by simp)
  refine ⟨⟨e0.mod, L.kind, rfl, rfl, Nat.le_refl _, fun y z c e1 e2 => I.ok.inj y z c (up e1) (up e2), fun y hy => ?_, fun y c z _ => ?_, fun _ => hd, Around.frames_deeper e0.frames, .inr ⟨rfl, rfl⟩, fun b z => absurd z (noA b), e0.bs, e0.bsz, fun b _ _ => noA b,
      fun b z => absurd z (noA b), e0.funs, e0.frf⟩,
    rfl, e0.bare, Un.kept kp, ⟨_, hns, fun i y x e1 e2 e3 => ?_⟩, fun y c e => ?_, e0.hok.fresh (Nat.le_refl _), fun y c e => ?_, fun q hq => absurd (show q ∈ ([] : List (Addr × Obj)) ++ [] from hq) (by simp), e0.hok.kept kp, by rw [List.length_set]; exact I.len⟩
  · have hy : scope.names.lookup y = some .cell ∨ scope.names.lookup y = some .free := hy
    rcases hy with hy | hy
    · exact absurd rfl (L.nocell _ (PySem.mem_of_lookup hy))
    · exact look hy
  · cases (show false = true from z)
  · have e1 : X.N[i]? = some y := e1
    have e3 : Vis scope y := e3
    by_cases hi : i = ip
    · subst hi
      have ey : y = p := Option.some.inj (e1.symm.trans L.at_)
      subst ey
      rw [List.getElem?_set, if_pos rfl] at e2
      have ex : x = v := by
        split at e2
        · exact (Option.some.inj (Option.some.inj e2)).symm
        · cases e2
      subst ex
      exact ⟨u, ru, .inl ⟨L.par, by simp⟩⟩
    · have ny : y ≠ p := fun z => by
        subst z
        have l1 := (List.getElem?_eq_some_iff.mp e1)
        have l2 := (List.getElem?_eq_some_iff.mp L.at_)
        obtain ⟨a1, b1⟩ := l1
        obtain ⟨a2, b2⟩ := l2
        rcases Nat.lt_or_gt_of_ne hi with c | c
        · exact List.pairwise_iff_getElem.mp L.nd i ip a1 a2 c (b1.trans b2.symm)
        · exact List.pairwise_iff_getElem.mp L.nd ip i a2 a1 c (b2.trans b1.symm)
      rw [List.getElem?_set, if_neg (fun z => hi z.symm)] at e2
      rcases e3 with k | k | k
      · exact absurd (L.loc _ (PySem.mem_of_lookup k) rfl) ny
      · exact absurd rfl (L.nocell _ (PySem.mem_of_lookup k))
      · obtain ⟨m, hn, hl⟩ := I.loc
        have hvis : Vis X.env.scope y := (L.free _ (PySem.mem_of_lookup k) rfl).elim (fun k => .inr (.inl k)) (fun k => .inr (.inr k))
        obtain ⟨w', r, q⟩ := hl i y x e1 e2 hvis
        obtain ⟨c2, h2⟩ := look k
        refine ⟨w', r, .inr ⟨.inr k, c2, h2, ?_⟩⟩
        have c1 := up h2
        rcases q with ⟨k', _⟩ | ⟨_, c3, e', z⟩
        · have k' : X.env.scope.names.lookup y = some .local := k'
          rcases L.free _ (PySem.mem_of_lookup k) rfl with k2 | k2 <;> rw [show X.env.scope.names.lookup y = _ from k2] at k' <;> cases k'
        · rw [c1] at e'
          cases e'
          exact cellK (I.freeC y _ c1) z
  · obtain ⟨w', z⟩ := I.cell y c (up e)
    exact ⟨w', cellK (I.freeC y c (up e)) z⟩
  · obtain ⟨v, o, ho, hd⟩ := I.cell y c (up e)
    exact un.free c o ho (I.freeC y c (up e)) (by simp)
/-- the lambda at f, as it stands for the frames fs at s1, H1: called, it reads its body -/
structure Lives (P : Program) (w : World) (K : PySem.W.Frag) (mg : Str → Option Value) (base : Heap) (k : Nat) (f c' : Addr) (q : Str) (tl : V → Hp → VK → Prop) (fs : List Addr) (s1 : Shared) (H1 : Hp) : Prop where
  obj : ∃ (nm q' : Str) (pa : Arguments) (body : Expr) (sc : Scope) (cl : List (Str × Addr)) (pm ctv : Value), s1.heap.get? f = some (PySem.W.kla_obj nm q' pa body sc cl pm c' ctv)
  fn : H1 f = none
  fr : f ∉ fs
  act : ∀ (A' : Around) (outer' : List Env) (s' : Shared) (H' : Hp) (u : Value) (y : V) (Q : VK), Room (k + 1) A' → Env0 P w K mg base A' outer' s' H' → (∀ b ∈ fs, b ∈ frs outer') → f ∉ frs outer' → Un (frs outer') [] H1 H' s1.heap s'.heap → RelV y u → H' c' = some (CodeO c' q) → tl y H' Q →
    codeAny (model P w) A' (.call (.ref f) ⟨[u], []⟩) (CR (L2.CX P w) outer' P w H' s' Q C8.E0) s'
theorem Lives.step {P : Program} {w : World} {K : PySem.W.Frag} {mg : Str → Option Value} {base : Heap} {k : Nat} {f c' : Addr} {q : Str} {tl : V → Hp → VK → Prop} {fs fs2 : List Addr} {s1 s2 : Shared} {H1 H2 : Hp} (L : Lives P w K mg base k f c' q tl fs s1 H1) (sub : ∀ b ∈ fs, b ∈ fs2) (nf : f ∉ fs2) (un : Un fs2 [] H1 H2 s1.heap s2.heap) :
    Lives P w K mg base k f c' q tl fs2 s2 H2 := by
  obtain ⟨nm, q', pa, body, sc, cl, pm, ctv, ho⟩ := L.obj
  refine ⟨⟨nm, q', pa, body, sc, cl, pm, ctv, un.keep f _ ho L.fn nf (by simp)⟩, un.free f _ ho L.fn (by simp), nf, fun A' outer' s' H' u y Q hr e0 hs hn un2 rv hc ht => ?_⟩
  exact L.act A' outer' s' H' u y Q hr e0 (fun b hb => hs b (sub b hb)) hn ((un.mono hs (fun _ h => h)).trans un2) rv hc ht
theorem Lives.imp {P : Program} {w : World} {K : PySem.W.Frag} {mg : Str → Option Value} {base : Heap} {k : Nat} {f c' : Addr} {q : Str} {tl tl' : V → Hp → VK → Prop} {fs : List Addr} {s1 : Shared} {H1 : Hp} (L : Lives P w K mg base k f c' q tl fs s1 H1) (h : ∀ y H Q, tl' y H Q → tl y H Q) :
    Lives P w K mg base k f c' q tl' fs s1 H1 := ⟨L.obj, L.fn, L.fr, fun A' outer' s' H' u y Q hr e0 hs hn un rv hc ht => L.act A' outer' s' H' u y Q hr e0 hs hn un rv hc (h _ _ _ ht)⟩
/-- just made, in X -/
theorem lam_lives {scope : Scope} {f c' : Addr} {pm ctv : Value} {params : Arguments} {body : Expr} {k ip : Nat} {p : Str} {tb : TE} (I : Inv X pins σ H s) (L : LamP X.env.scope scope X.N p ip) (hf : s.heap.get? f = some (PySem.W.kla_obj "<lambda>" (X.env.qual ++ "<lambda>") params body scope (cloFrom X.env.cells scope.names []) pm c' ctv)) (hfn : H f = none) (hfr : f ∉ frs X.stack)
    (hbind : ∀ u : Value, bindArgs (PySem.W.kla_fn "<lambda>" (X.env.qual ++ "<lambda>") params body scope (cloFrom X.env.cells scope.names []) pm (.ref c') ctv) ⟨[u], []⟩ = pure [(p, u)])
    (hbody : ∀ (A : Around) (outer : List Env) (s : Shared) (H : Hp), Room k (A.deeper (lamEnv X scope s.heap.objs.size f c')) → PE (lamCx X A outer s H C8.E0 scope f c') body tb) :
    Lives X.prog X.w X.K X.mg X.base k f c' (X.env.qual ++ "<lambda>") (fun y H' Q' => tb (σ.set ip (some y)) H' Q') (frs X.stack) s H := by
  refine ⟨⟨_, _, _, _, _, _, _, _, hf⟩, hfn, hfr, fun A' outer' s2 H2 u x Q hr e0 _ hn un ru hc q => ?_⟩
  have of2 := un.keep f _ hf hfn hn (by simp)
  obtain ⟨⟨oc, ws, t, hoc, hdc, hvc⟩, _, _⟩ := e0.hok c' _ hc
  refine PySem.W.kla_callFunE hr.depth of2 rfl L.co L.gen rfl ⟨c', oc, ws, t, rfl, hoc, hdc, hvc⟩ ?_
  rw [hbind]
  have lim : s2.heap.NoLimit := e0.mod.nolimit.keeps fun b o e => (e0.bs b o e).1
  refine wpAny_pure (wpAny_newFunctionEnv (fun y hy => L.nocell y hy) (fun y hy => by rw [List.mem_singleton.mp hy]; exact L.par) (fun h₁ hns hsb => ⟨lim.fresh _ hsb, ?_⟩) L.kind)
  show codeAny _ _ (.expr body (lamEnv X scope s2.heap.objs.size f c')) _ _
  have kp : ∀ b o, s2.heap.get? b = some o → h₁.get? b = some o := fun b o e => hsb.extBut b o (Nat.ne_of_lt (Heap.lt_size e)) (Heap.get?_push_of_some _ e)
  have J : Inv (lamCx X A' outer' s2 H2 C8.E0 scope f c') [] (σ.set ip (some x)) H2 { s2 with heap := h₁, toks := s2.toks + ([(p, u)] : List (Str × Value)).length } :=
    lam_startP I L ru e0 hr.hd un hns kp
  refine PySem.W.kla_codeExpr (wpAny_mono ((hbody _ _ s2 H2 (hr.deeper _)).run [] _ _ H2 Q J q) (fun v s' hq => ?_) fun e s' hq => hq)
  obtain ⟨w', H', J', rv, q⟩ := hq
  exact ⟨w', H', J'.os, J'.bare, J'.base, J'.hok, rv, q⟩
end
/-- in a def's context, entered where the lambda lives -/
theorem Lives.at {CXg : CXT} {Eg : XK} {P : Program} {w : World} {K : PySem.W.Frag} {mg : Str → Option Value} {base : Heap} {Ng : List Str} {qg : Str} {sg : Scope} {g : Addr} {cdg : Value} {A : Around} {outer : List Env} {s sZ : Shared} {H HZ : Hp} {pn : List (Addr × Obj)} {xe : Value → Shared → Prop} {pinsZ : List (Addr × Obj)} {σZ : L2.St} {k : Nat} {f c' : Addr} {q : Str} {tl : V → Hp → VK → Prop}
    (L : Lives P w K mg base k f c' q tl (frs outer) s H) (I : Inv ((cxOf CXg P w K mg base Ng qg sg g cdg A outer s H Eg).tr pn xe) pinsZ σZ HZ sZ) :
    Lives P w K mg base k f c' q tl (frs (envOfC qg sg s.heap.objs.size g cdg :: outer)) sZ HZ := by
  have sub : ∀ b ∈ frs outer, b ∈ frs (envOfC qg sg s.heap.objs.size g cdg :: outer) := fun b hb => by
    unfold frs at hb ⊢
    obtain ⟨e, he, h2⟩ := List.mem_filterMap.mp hb
    exact List.mem_filterMap.mpr ⟨e, List.mem_cons_of_mem _ he, h2⟩
  have nf : f ∉ frs (envOfC qg sg s.heap.objs.size g cdg :: outer) := fun hb => by
    rcases List.mem_cons.mp (I.stkSub f hb) with e | e
    · obtain ⟨nm, q', pa, body, sc, cl, pm, ctv, ho⟩ := L.obj
      have h1 := Heap.lt_size ho
      have e : f = s.heap.objs.size := e
      rw [e] at h1
      exact Nat.lt_irrefl _ h1
    · exact L.fr e
  exact L.step sub nf (Un.mono (show Un (frs outer) [] H HZ s.heap sZ.heap from I.base) sub (fun _ h => h))
def tActS (i : Nat) (f c' : Addr) (q : Str) (tl : V → Hp → VK → Prop) (ta : TA) : TE := fun σ H Q => σ[i]? = some (some (.ref f)) ∧ ta σ H fun xs H1 => ∃ x, xs = [x] ∧ H1 c' = some (CodeO c' q) ∧ tl x H1 Q
/-- a(e), in the def that got the lambda -/
theorem pe_actS {CXg : CXT} {Eg : XK} {P : Program} {w : World} {K : PySem.W.Frag} {mg : Str → Option Value} {base : Heap} {Ng : List Str} {qg : Str} {sg : Scope} {g f c' : Addr} {cdg : Value} {A : Around} {outer : List Env} {s : Shared} {H : Hp} {k i : Nat} {a q : Str} {pn : List (Addr × Obj)} {xe : Value → Shared → Prop} {tl : V → Hp → VK → Prop} {ta : TA} {e : Expr} {p1 p2 : Pos}
    (Lv : Lives P w K mg base k f c' q tl (frs outer) s H) (hr : Room (k + 1) (A.deeper (envOfC qg sg s.heap.objs.size g cdg)))
    (hN : Ng[i]? = some a) (hv : Vis sg a) (ha : PA ((cxOf CXg P w K mg base Ng qg sg g cdg A outer s H Eg).tr pn xe) [e] ta)
    (hd : (a == ("__debug__" : Str)) = false := by decide) (hcd : (a == ("__classdict__" : Str)) = false := by decide)
    (he : starEach [e] ((cxOf CXg P w K mg base Ng qg sg g cdg A outer s H Eg).tr pn xe).env = (false, eval e ((cxOf CXg P w K mg base Ng qg sg g cdg A outer s H Eg).tr pn xe).env) :: starEach [] ((cxOf CXg P w K mg base Ng qg sg g cdg A outer s H Eg).tr pn xe).env := by rfl)
    (hpl : (backTo p2 (starEach [] ((cxOf CXg P w K mg base Ng qg sg g cdg A outer s H Eg).tr pn xe).env)).any (·.1) = false := by rfl) :
    PE ((cxOf CXg P w K mg base Ng qg sg g cdg A outer s H Eg).tr pn xe) (.Call (.Name a p1) [e] [] p2) (tActS i f c' q tl ta) := by
  refine ⟨fun pinsZ sZ σZ HZ Q IZ h => ?_⟩
  obtain ⟨hs, ht⟩ := h
  refine wpAny_Call_Name_kw (thn ((pe_var (pos := p1) (i := i) hN hv hd hcd).run pinsZ sZ σZ HZ (fun v H1 => v = .ref f ∧ H1 = HZ) IZ ⟨.ref f, hs, rfl, rfl⟩) fun u s1 ⟨v, H1, I1, r1, q1⟩ => ?_)
  obtain ⟨ev, eH⟩ := q1
  subst ev
  rw [eH] at I1
  obtain rfl : u = Value.ref f := r1
  have fnAt : ∀ (σ' : L2.St) (H' : Hp) (s' : Shared), Inv ((cxOf CXg P w K mg base Ng qg sg g cdg A outer s H Eg).tr pn xe) pinsZ σ' H' s' → PySem.W.FnAt f s'.heap := fun σ' H' s' I' => by
    obtain ⟨nm, q', pa, body, sc, cl, pm, ctv, ho⟩ := (Lv.at I').obj
    exact ⟨_, _, _, _, ho⟩
  refine PySem.W.callWith_F (fnAt _ _ _ I1) (thn (ha.run p2 pinsZ s1 σZ HZ _ I1 ht) fun us s2 ⟨vs, H2, I2, r2, x, ex, hc, q⟩ => ⟨fnAt _ _ _ I2, ?_⟩) he hpl
  subst ex
  obtain ⟨u, rfl, ru⟩ := vals1 r2
  have L2' := Lv.at I2
  have rc := L2'.act (A.deeper (envOfC qg sg s.heap.objs.size g cdg)) (envOfC qg sg s.heap.objs.size g cdg :: outer) s2 H2 u x Q hr I2.env0 (fun _ h => h) L2'.fr Un.refl ru hc q
  have hx : Passes (L2.CX P w) ((cxOf CXg P w K mg base Ng qg sg g cdg A outer s H Eg).tr pn xe) C8.E0 := passes_call LamX.takes0 (fun _ _ _ _ h => h)
  refine wpAny_call (codeAny_mono rc fun r s' hq => ?_)
  cases r with
  | error e => exact hx pinsZ σZ H2 s2 e s' I2 hq
  | ok fl =>
    cases fl with
    | ret u => exact I2.after hq
    | next => exact False.elim hq
    | brk => exact False.elim hq
    | cont => exact False.elim hq
/-- the def that calls what it got as its second argument, or hands it on; TT: what it makes of the lambda's reading -/
def GivesS (P : Program) (w : World) (K : PySem.W.Frag) (mg : Str → Option Value) (base : Heap) (k j : Nat) (Ng : List Str) (x : Str) (sg : Scope) (g : Addr) (cdg : Value) (bg : List Stmt) (q : Str) (TT : (V → Hp → VK → Prop) → V → Hp → VK → Prop) : Prop :=
  ∀ (A : Around) (outer : List Env) (s : Shared) (H : Hp) (f c' : Addr) (v0 : V) (Q : VK) (tl : V → Hp → VK → Prop), Room (k + j + 1) (A.deeper (envOfC x sg s.heap.objs.size g cdg)) →
    Lives P w K mg base k f c' q tl (frs outer) s H → H c' = some (CodeO c' q) → TT tl v0 H Q →
    ∃ t, PSs (cxOf C8.CX0 P w K mg base Ng x sg g cdg A outer s H C8.E0).nox bg t ∧ t { nx := fun _ H' => Q .non H', rt := Q } (L2.start Ng [v0, .ref f]) H
def tLamS (T : List (Addr × Str)) (TT : (V → Hp → VK → Prop) → V → Hp → VK → Prop) (ip : Nat) (t0 : TE) (t : TE) : TE := fun σ H Q => t0 σ H fun v0 H0 => Tabs T H0 ∧ ∀ H1, ExtN H0 H1 → Tabs T H1 → TT (fun y H' Q' => t (σ.set ip (some y)) H' Q') v0 H1 Q
def tPassS (i : Nat) (f c' : Addr) (q : Str) (tl : V → Hp → VK → Prop) (TT : (V → Hp → VK → Prop) → V → Hp → VK → Prop) (t0 : TE) : TE := fun σ H Q => t0 σ H fun v0 H0 => σ[i]? = some (some (.ref f)) ∧ H0 c' = some (CodeO c' q) ∧ TT tl v0 H0 Q
section
variable {X : Cx}
/-- x(e0, lambda p: body) -/
theorem pe_lamcallS {T : List (Addr × Str)} {TT : (V → Hp → VK → Prop) → V → Hp → VK → Prop} {x a0 a pr : Str} {g c P : Addr} {k j ip : Nat} {pg : Arguments} {bg : List Stmt} {sg : Scope} {dV kV doc pm cdv ct oc : Value} {an od : Option Addr} {osl : Array (Option Value)} {Ng : List Str}
    {params : Arguments} {body e0 : Expr} {scope : Scope} {t0 : TE} {t : TE} {p lpos pos : Pos} (hg : Gl X x) (hm : X.mg x = some (.ref g)) (hk : PySem.W.keepIn X.K (.ref g) = true)
    (lk : X.K.lookup g = some ⟨oc, od, .func (PySem.W.fnOf x x pg bg sg dV kV doc pm an cdv ct), osl⟩) (hcg : PySem.W.codeIn X.K cdv x = true) (hb : L2.Binds X.K (PySem.W.fnOf x x pg bg sg dV kV doc pm an cdv ct) [a0, a] []) (Sg : FnScope Ng [a0, a] sg)
    (hG : GivesS X.prog X.w X.K X.mg X.base k j Ng x sg g cdv bg (X.env.qual ++ "<lambda>") TT) (h0 : PE X e0 t0)
    (TB : TabB X.base X.mg c P) (hcode : X.env.code = .ref c) (hmT : (P, X.env.qual ++ "<lambda>") ∈ T) (hu : ∀ p ∈ T, p.1 = P → p.2 = X.env.qual ++ "<lambda>") (hr : Room (k + j + 2) X.A) (L : LamP X.env.scope scope X.N pr ip) (hdef : defaultsOf params X.env = ([], []))
    (hbind : ∀ (q : Str) (cl : List (Str × Addr)) (pm cv ctv u : Value), bindArgs (PySem.W.kla_fn "<lambda>" q params body scope cl pm cv ctv) ⟨[u], []⟩ = pure [(pr, u)])
    (hbody : ∀ (A : Around) (outer : List Env) (s : Shared) (H : Hp) (f c' : Addr), Room k (A.deeper (lamEnv X scope s.heap.objs.size f c')) → PE (lamCx X A outer s H C8.E0 scope f c') body t)
    (hdb : (x == ("__debug__" : Str)) = false := by decide)
    (he : starEach [e0, .Lambda params body scope lpos] X.env = (false, eval e0 X.env) :: starEach [.Lambda params body scope lpos] X.env := by rfl) :
    PE X (.Call (.Name x p) [e0, .Lambda params body scope lpos] [] pos) (tLamS T TT ip t0 t) := by
  refine ⟨fun pins s σ H Q I h => ?_⟩
  refine wpAny_Call_Name_kw (ld_glob I hg hm ?_ hdb)
  refine PySem.W.callWith_K (h₀ := X.base) I.ok.mod.kin hk ?_ he (by rfl)
  rw [he]
  show wpAny _ _ (spliced ((false, eval e0 X.env) :: (false, eval (.Lambda params body scope lpos) X.env) :: backTo pos (starEach [] X.env))) _ _ s
  refine Calls.spliced_cons (thn (h0.run pins s σ H _ I h) fun u0 s0 ⟨v0, H0, I0, r0, hT, h⟩ => ?_)
  refine Calls.spliced_cons (lam_make2 I0 TB hcode hmT hu hT hdef (L.has I0.ok) fun f c' pm' ctv H1 s' I1 eN T1 hf hfn hfr hco => ?_)
  refine Calls.spliced_nil ⟨I1.kIn, ?_⟩
  have rc : codeAny (model X.prog X.w) X.A (.call (.ref g) ⟨[u0, .ref f], []⟩) (CR C8.CX0 X.stack X.prog X.w H1 s' Q C8.E0) s' := by
    refine run_ofS (N := Ng) (ps := [a0, a]) (us := [u0, .ref f]) (vs := [v0, .ref f]) lk hcg Sg hr I1.env0 (hb s' [u0, .ref f] I1.kIn rfl) (.cons r0 (.cons rfl .nil)) rfl fun hr' => ?_
    have Lv := lam_lives (k := k) I1 L hf hfn hfr (fun u => hbind _ _ _ _ _ u) (fun A outer s H hr2 => hbody A outer s H f c' hr2)
    obtain ⟨t', ht', hq'⟩ := hG X.A X.stack s' H1 f c' v0 Q _ hr' Lv hco (h H1 eN T1)
    exact ⟨t', ht'.nox, hq'⟩
  refine wpAny_call (codeAny_mono rc fun r s2 hq => ?_)
  cases r with
  | error e => exact (show False from hq).elim
  | ok fl =>
    cases fl with
    | ret u => exact I1.after hq
    | next => exact False.elim hq
    | brk => exact False.elim hq
    | cont => exact False.elim hq
end
/-- x(e0, a): the lambda handed on -/
theorem pe_passS {CXg : CXT} {Eg : XK} {P : Program} {w : World} {K : PySem.W.Frag} {mg : Str → Option Value} {base : Heap} {Nz : List Str} {qz : Str} {sz : Scope} {z f c' : Addr} {cdz : Value} {A : Around} {outer : List Env} {s : Shared} {H : Hp} {k j i : Nat} {q : Str} {pn : List (Addr × Obj)} {xe : Value → Shared → Prop} {tl : V → Hp → VK → Prop} {TT : (V → Hp → VK → Prop) → V → Hp → VK → Prop} {x a0 a1 a : Str} {g : Addr}
    {pg : Arguments} {bg : List Stmt} {sg : Scope} {dV kV doc pm cdv ct oc : Value} {an od : Option Addr} {osl : Array (Option Value)} {Ng : List Str} {e0 : Expr} {t0 : TE} {p p1 pos : Pos}
    (Lv : Lives P w K mg base k f c' q tl (frs outer) s H) (hr : Room (k + j + 2) (A.deeper (envOfC qz sz s.heap.objs.size z cdz)))
    (hg : Gl ((cxOf CXg P w K mg base Nz qz sz z cdz A outer s H Eg).tr pn xe) x) (hm : mg x = some (.ref g)) (hk : PySem.W.keepIn K (.ref g) = true)
    (lk : K.lookup g = some ⟨oc, od, .func (PySem.W.fnOf x x pg bg sg dV kV doc pm an cdv ct), osl⟩) (hcg : PySem.W.codeIn K cdv x = true) (hb : L2.Binds K (PySem.W.fnOf x x pg bg sg dV kV doc pm an cdv ct) [a0, a1] []) (Sg : FnScope Ng [a0, a1] sg)
    (hG : GivesS P w K mg base k j Ng x sg g cdv bg q TT) (h0 : PE ((cxOf CXg P w K mg base Nz qz sz z cdz A outer s H Eg).tr pn xe) e0 t0)
    (hN : Nz[i]? = some a) (hv : Vis sz a)
    (hd : (a == ("__debug__" : Str)) = false := by decide) (hcd : (a == ("__classdict__" : Str)) = false := by decide) (hdb : (x == ("__debug__" : Str)) = false := by decide)
    (he : starEach [e0, .Name a p1] ((cxOf CXg P w K mg base Nz qz sz z cdz A outer s H Eg).tr pn xe).env = (false, eval e0 ((cxOf CXg P w K mg base Nz qz sz z cdz A outer s H Eg).tr pn xe).env) :: starEach [.Name a p1] ((cxOf CXg P w K mg base Nz qz sz z cdz A outer s H Eg).tr pn xe).env := by rfl) :
    PE ((cxOf CXg P w K mg base Nz qz sz z cdz A outer s H Eg).tr pn xe) (.Call (.Name x p) [e0, .Name a p1] [] pos) (tPassS i f c' q tl TT t0) := by
  refine ⟨fun pinsZ sZ σZ HZ Q IZ h => ?_⟩
  refine wpAny_Call_Name_kw (ld_glob IZ hg hm ?_ hdb)
  refine PySem.W.callWith_K (h₀ := base) IZ.ok.mod.kin hk ?_ he (by rfl)
  rw [he]
  show wpAny _ _ (spliced ((false, eval e0 ((cxOf CXg P w K mg base Nz qz sz z cdz A outer s H Eg).tr pn xe).env) :: (false, eval (.Name a p1) ((cxOf CXg P w K mg base Nz qz sz z cdz A outer s H Eg).tr pn xe).env) :: backTo pos (starEach [] ((cxOf CXg P w K mg base Nz qz sz z cdz A outer s H Eg).tr pn xe).env))) _ _ sZ
  refine Calls.spliced_cons (thn (h0.run pinsZ sZ σZ HZ _ IZ h) fun u0 s0 ⟨v0, H0, I0, r0, hs, hc, ht⟩ => ?_)
  refine Calls.spliced_cons (thn ((pe_var (pos := p1) (i := i) hN hv hd hcd).run pinsZ s0 σZ H0 (fun v H1 => v = .ref f ∧ H1 = H0) I0 ⟨.ref f, hs, rfl, rfl⟩) fun u s1 ⟨v, H1, I1, r1, q1⟩ => ?_)
  obtain ⟨ev, eH⟩ := q1
  subst ev
  rw [eH] at I1
  obtain rfl : u = Value.ref f := r1
  refine Calls.spliced_nil ⟨I1.kIn, ?_⟩
  have rc : codeAny (model P w) (A.deeper (envOfC qz sz s.heap.objs.size z cdz)) (.call (.ref g) ⟨[u0, .ref f], []⟩) (CR C8.CX0 (envOfC qz sz s.heap.objs.size z cdz :: outer) P w H0 s1 Q C8.E0) s1 := by
    refine run_ofS (N := Ng) (ps := [a0, a1]) (us := [u0, .ref f]) (vs := [v0, .ref f]) lk hcg Sg hr I1.env0 (hb s1 [u0, .ref f] I1.kIn rfl) (.cons r0 (.cons rfl .nil)) rfl fun hr' => ?_
    obtain ⟨t', ht', hq'⟩ := hG (A.deeper (envOfC qz sz s.heap.objs.size z cdz)) (envOfC qz sz s.heap.objs.size z cdz :: outer) s1 H0 f c' v0 Q tl hr' (Lv.at I1) hc ht
    exact ⟨t', ht'.nox, hq'⟩
  refine wpAny_call (codeAny_mono rc fun r s2 hq => ?_)
  cases r with
  | error e => exact (show False from hq).elim
  | ok fl =>
    cases fl with
    | ret u => exact I1.after hq
    | next => exact False.elim hq
    | brk => exact False.elim hq
    | cont => exact False.elim hq
end Vf

set_option Elab.async false
set_option linter.all false
set_option maxRecDepth 100000
set_option maxHeartbeats 4000000
namespace Vf
open PySem PySem.Spec PyProof.Rows L2 TL
/-! ### the way back by the tails -/
def rv (g : Nat → Option Nat) : Nat → Nat → List Nat
  | 0, v => [v]
  | n + 1, v => match g v with
    | none => [v]
    | some u => v :: rv g n u
def Rw (g : Nat → Option Nat) (v : Nat) : List Nat := rv g v v
theorem rv_fuel {g : Nat → Option Nat} (dn : ∀ v u, g v = some u → u < v) : ∀ (n m v : Nat), v ≤ n → v ≤ m → rv g n v = rv g m v
  | 0, 0, v, _, _ => rfl
  | 0, m + 1, v, h, _ => by
    have : v = 0 := by omega
    subst this
    show [0] = match g 0 with | none => [0] | some u => 0 :: rv g m u
    cases e : g 0 with
    | none => rfl
    | some u => exact absurd (dn 0 u e) (Nat.not_lt_zero _)
  | n + 1, 0, v, _, h => by
    have : v = 0 := by omega
    subst this
    show (match g 0 with | none => [0] | some u => 0 :: rv g n u) = [0]
    cases e : g 0 with
    | none => rfl
    | some u => exact absurd (dn 0 u e) (Nat.not_lt_zero _)
  | n + 1, m + 1, v, h1, h2 => by
    show (match g v with | none => [v] | some u => v :: rv g n u) = match g v with | none => [v] | some u => v :: rv g m u
    cases e : g v with
    | none => rfl
    | some u =>
      have := dn v u e
      show v :: rv g n u = v :: rv g m u
      rw [rv_fuel dn n m u (by omega) (by omega)]
theorem Rw_none {g : Nat → Option Nat} {v : Nat} (e : g v = none) : Rw g v = [v] := by
  unfold Rw
  cases v with
  | zero => rfl
  | succ n =>
    show (match g (n + 1) with | none => [n + 1] | some u => (n + 1) :: rv g n u) = _
    rw [e]
theorem Rw_some {g : Nat → Option Nat} (dn : ∀ v u, g v = some u → u < v) {v u : Nat} (e : g v = some u) : Rw g v = v :: Rw g u := by
  have h := dn v u e
  unfold Rw
  cases v with
  | zero => omega
  | succ n =>
    show (match g (n + 1) with | none => [n + 1] | some u => (n + 1) :: rv g n u) = _
    rw [e]
    show (n + 1) :: rv g n u = _
    rw [rv_fuel dn n u u (by omega) (Nat.le_refl _)]
theorem Rw_head (g : Nat → Option Nat) (v : Nat) : ∃ r, Rw g v = v :: r := by
  unfold Rw
  cases v with
  | zero => exact ⟨[], rfl⟩
  | succ n =>
    show ∃ r, (match g (n + 1) with | none => [n + 1] | some u => (n + 1) :: rv g n u) = _
    cases g (n + 1) with
    | none => exact ⟨[], rfl⟩
    | some u => exact ⟨_, rfl⟩
theorem Rw_len {g : Nat → Option Nat} (dn : ∀ v u, g v = some u → u < v) : ∀ (n v : Nat), v ≤ n → (Rw g v).length ≤ v + 1
  | 0, v, h => by
    have : v = 0 := by omega
    subst this
    exact Nat.le_refl 1
  | n + 1, v, h => by
    cases e : g v with
    | none => rw [Rw_none e]; exact Nat.succ_le_succ (Nat.zero_le _)
    | some u =>
      have h2 := dn v u e
      have := Rw_len dn n u (by omega)
      rw [Rw_some dn e, List.length_cons]; omega
def zI (ns : List Nat) : List Int := ns.map fun x : Nat => (x : Int)
theorem zI_lt_cons {v : Nat} {a b : List Nat} (h : zI a < zI b) : zI (v :: a) < zI (v :: b) := List.Lex.cons h
theorem zI_lt_head {u v : Nat} {a b : List Nat} (h : u < v) : zI (u :: a) < zI (v :: b) := List.Lex.rel (Int.ofNat_lt.mpr h)
/-- not above -/
def LeI (a b : List Nat) : Prop := zI a < zI b ∨ a = b
theorem LeI.cons {v : Nat} {a b : List Nat} (h : LeI a b) : LeI (v :: a) (v :: b) := by
  rcases h with h | h
  · exact .inl (zI_lt_cons h)
  · exact .inr (by rw [h])
theorem LeI.head {u v : Nat} {a b : List Nat} (h : u < v) : LeI (u :: a) (v :: b) := .inl (zI_lt_head h)
theorem Bd.dn {Pr : Arc → Prop} {f g : Nat → Option Nat} (B : Bd Pr f g) (up : ∀ a, Pr a → a.1 < a.2.1) : ∀ v u, g v = some u → u < v := fun v u e => by
  by_cases hv : v = 0
  · subst hv; rw [B.z.2] at e; cases e
  · cases h : f v with
    | none => rw [(B.n v hv h).1] at e; cases e
    | some y =>
      obtain ⟨u', c, x, h1, h2, _⟩ := B.s v y hv h
      rw [e] at h1
      have := Option.some.inj h1
      subst this
      exact up _ h2
/-- one arc more: the pair of v is not above the pair by this arc -/
theorem best_arc {as : List Arc} {f g : Nat → Option Nat} (B : Bd (· ∈ as) f g) (up : ∀ a ∈ as, a.1 < a.2.1) {u v c x : Nat} (h : (u, v, c) ∈ as) (e : f u = some x) : ∃ y, f v = some y ∧ LeI (y :: Rw g v) ((x + c) :: v :: Rw g u) := by
  have huv : u < v := up _ h
  have hv : v ≠ 0 := by omega
  have dn := B.dn up
  obtain ⟨y, hy, le⟩ := B.le h e
  obtain ⟨u0, c0, x0, h1, h2, h3, h4, H⟩ := B.s v y hv hy
  obtain ⟨l1, l2⟩ := H u c x h e
  refine ⟨y, hy, ?_⟩
  rcases Nat.lt_or_ge y (x + c) with lt | ge
  · exact LeI.head lt
  · have ey : y = x + c := by omega
    have lu := l2 ey
    rw [ey]
    refine LeI.cons ?_
    rw [Rw_some dn h1]
    refine LeI.cons ?_
    rcases Nat.lt_or_ge u0 u with k | k
    · obtain ⟨r, er⟩ := Rw_head g u0
      obtain ⟨r2, er2⟩ := Rw_head g u
      rw [er, er2]
      exact LeI.head k
    · exact .inr (by rw [show u0 = u by omega])
theorem best_from {as : List Arc} {f g : Nat → Option Nat} (B : Bd (· ∈ as) f g) (up : ∀ a ∈ as, a.1 < a.2.1) {v y : Nat} (hv : v ≠ 0) (e : f v = some y) : ∃ u c x, (u, v, c) ∈ as ∧ f u = some x ∧ y :: Rw g v = (x + c) :: v :: Rw g u := by
  obtain ⟨u, c, x, h1, h2, h3, h4, _⟩ := B.s v y hv e
  exact ⟨u, c, x, h2, h3, by rw [h4, Rw_some (B.dn up) h1]⟩
theorem path_min {as : List Arc} {f g : Nat → Option Nat} (B : Bd (· ∈ as) f g) (up : ∀ a ∈ as, a.1 < a.2.1) {ns : List Nat} (h0 : ns.getD 0 0 = 0) : ∀ (k t : Nat), k < ns.length → totK as ns k = some t → ∃ y, f (ns.getD k 0) = some y ∧ LeI (y :: Rw g (ns.getD k 0)) (t :: (ns.take (k + 1)).reverse)
  | 0, t, hk, h => by
    have ht : (0 : Nat) = t := Option.some.inj h
    subst ht
    refine ⟨0, by rw [h0]; exact B.z.1, .inr ?_⟩
    cases ns with
    | nil => cases hk
    | cons a r =>
      have : a = 0 := h0
      subst this
      show 0 :: Rw g 0 = 0 :: [0]
      rw [Rw_none B.z.2]
  | k + 1, t, hk, h => by
    obtain ⟨x, c, e, hm, rfl⟩ := stepT_some h
    obtain ⟨y', e1, l1⟩ := path_min B up h0 k x (by omega) e
    have et : (ns.take (k + 1 + 1)).reverse = ns.getD (k + 1) 0 :: (ns.take (k + 1)).reverse := by
      rw [List.take_succ, List.getElem?_eq_getElem hk, List.reverse_append, List.getD_eq_getElem?_getD, List.getElem?_eq_getElem hk]; rfl
    rw [et]
    obtain ⟨y, e2, l2⟩ := best_arc B up hm e1
    refine ⟨y, e2, ?_⟩
    generalize ns.getD (k + 1) 0 = v at *
    generalize (ns.take (k + 1)).reverse = q at *
    have l3 : LeI ((y' + c) :: v :: Rw g (ns.getD k 0)) ((x + c) :: v :: q) := by
      rcases l1 with l | l
      · cases l with
        | rel r =>
          have r : (y' : Int) < (x : Int) := r
          exact LeI.head (by omega)
        | cons r => exact .inl (zI_lt_cons (zI_lt_cons r))
      · injection l with l4 l5
        rw [l4, l5]; exact .inr rfl
    rcases l2 with l2 | l2
    · rcases l3 with l3 | l3
      · exact .inl (List.lt_trans l2 l3)
      · rw [← l3]; exact .inl l2
    · rw [l2]; exact l3
theorem tot_bestR {as : List Arc} {f g : Nat → Option Nat} (B : Bd (· ∈ as) f g) (up : ∀ a ∈ as, a.1 < a.2.1) (pw : as.Pairwise fun a b => a.1 < b.1 ∨ a.1 = b.1 ∧ a.2.1 < b.2.1) :
    ∀ (n v : Nat), v ≤ n → v ≠ 0 → ∀ y, f v = some y → ∃ b, tot as (nodesOf b v) = some y ∧ (nodesOf b v).reverse = Rw g v
  | 0, v, h, hv, _, _ => absurd (Nat.le_zero.mp h) hv
  | n + 1, v, h, hv, y, e => by
    obtain ⟨u, c, x, h1, h2, h3, h4, _⟩ := B.s v y hv e
    have huv : u < v := up _ h2
    by_cases hu : u = 0
    · subst hu
      refine ⟨fun _ => false, ?_⟩
      rw [Rw_some (B.dn up) h1, Rw_none B.z.2]
      unfold nodesOf
      rw [mids_false]
      show tot as [0, v] = _ ∧ [0, v].reverse = [v, 0]
      rw [tot_two, B.z.1] at *
      have := Option.some.inj h3
      rw [stepT_of pw h2, h4, this]
      exact ⟨rfl, rfl⟩
    · obtain ⟨b, hb, hr⟩ := tot_bestR B up pw n u (by omega) hu x h3
      refine ⟨byU b u, ?_, ?_⟩
      · rw [nodes_by b hu huv, tot_snoc u v (by rw [nodes_len]; omega) (nodes_last b u), hb, stepT_of pw h2, h4]
      · rw [nodes_by b hu huv, List.reverse_append, hr, Rw_some (B.dn up) h1]; rfl
end Vf

set_option Elab.async false
set_option linter.all false
set_option maxRecDepth 100000
set_option maxHeartbeats 4000000
namespace Vf
open PySem PySem.Spec PyProof.Rows L2 TL LamX
def adjT (as : List Arc) (i : Nat) : List (Nat × Nat) := as.filterMap fun a => if a.1 = i then some a.2 else none
theorem adjT_mem {as : List Arc} {k : Nat} {p : Nat × Nat} : p ∈ adjT as k ↔ (k, p) ∈ as := by
  unfold adjT
  rw [List.mem_filterMap]
  constructor
  · rintro ⟨a, h1, h2⟩
    by_cases c : a.1 = k
    · rw [if_pos c] at h2
      rw [← Option.some.inj h2, ← c]; exact h1
    · rw [if_neg c] at h2; cases h2
  · intro h
    exact ⟨(k, p), h, if_pos rfl⟩
def NetT (n : Nat) (as : List Arc) : Prop := 1 ≤ n ∧ n ≤ 500 ∧ (∀ a ∈ as, a.1 < a.2.1 ∧ a.2.1 < n) ∧ ∀ i, (adjT as i).length ≤ 500
def CoV (H : Hp) (ps : List (Nat × Nat)) (x : V) (r : Nat × Nat) : Prop := ∃ b b2 p, x = .ref b ∧ ps[r.1]? = some p ∧ H b = some (.tup [.ref b2, nV r.2]) ∧ H b2 = some (.tup [nV p.1, nV p.2])
def ttBtT (tl : V → Hp → VK → Prop) (v0 : V) (H : Hp) (Q : VK) : Prop := ∃ (a : Addr) (us : List V) (ps : List (Nat × Nat)) (as : List Arc), v0 = .ref a ∧ H a = some (.tup us) ∧ LV (FgV H) us ps ∧ Inj ps ∧ NetT ps.length as ∧
  (∀ (i : Nat) (x : V) (H' : Hp) (Q' : VK), i + 1 < ps.length → us[i]? = some x → Same H H' → (∀ H'' b vs, Same H' H'' → H' b = none → H'' b = some (.lst vs) → LV (CoV H'' ps) vs (adjT as i) → Q' (.ref b) H'') → tl x H' Q') ∧
  ∀ (H' : Hp) (B D1 D2 : Addr) (f g : Nat → Option Nat) (N : Nat), Same H H' → H' B = some (.tup [.ref D1, .ref D2]) → BdT H' D1 N ps nV f → BdT H' D2 N ps (fun u => us.getD u .non) g → Bd (· ∈ as) f g → Q (.ref B) H'
theorem cut_lastT (xs : List V) : cutV xs none (some (-1)) = xs.take (xs.length - 1) := by
  unfold cutV
  have e1 : HT.sIx xs.length 0 none = 0 := rfl
  have e2 : HT.sIx xs.length xs.length (some (-1)) = xs.length - 1 := by
    unfold HT.sIx
    simp
    omega
  rw [e1, e2, List.drop_zero, Nat.sub_zero]
section
variable {P : Program} {w : World} {K : PySem.W.Frag} {mg : Str → Option Value} {base : Heap}
theorem gives_btT (T : Txt K mg) (k j : Nat) (q : Str) (cdv : Value) : GivesS P w K mg base k j ["places", "leads", "bounds", "tails", "tail", "head", "cost", "total"] "_bounds_and_tails" (defScope s_bounds_and_tails) T.a_bounds_and_tails cdv (defBody s_bounds_and_tails) q ttBtT := by
  intro A outer s H f c' v0 Q tl hr Lv hc htt
  have hrZ : Room (k + 1) (A.deeper (envOfC "_bounds_and_tails" (defScope s_bounds_and_tails) s.heap.objs.size T.a_bounds_and_tails cdv)) := hr.mono (by omega)
  obtain ⟨a, us, ps, as, rfl, ea, lv, inj, ok, hl, q⟩ := htt
  have hn := ok.1
  have n500 := ok.2.1
  have lA := ok.2.2.2
  have lvn := lv.1
  have g0 : ps[0]? = some ps[0] := List.getElem?_eq_getElem hn
  generalize ps[0] = p0 at g0
  obtain ⟨u0, eu0, b0, rfl, eb0⟩ := lv.2 0 _ g0
  refine ⟨_, (pss_cons (ps_set (i := 2) sc_bounds_and_tails.nd rfl (.inl rfl) (pe_dispT (hu0 hr) (pe_ix ix_tup (pv 0) pe_int (fun _ _ => rfl)) pe_int))
      (pss_cons (ps_set (i := 3) sc_bounds_and_tails.nd rfl (.inl rfl) pe_dnewT)
      (pss_cons (ps_for PassesOwn.never rfl (pi_tup (pe_slice sl_tupA (pv 0) po_none (po_some (pe_un un_neg pe_int)))) (pg_name (i := 4) sc_bounds_and_tails.nd rfl (.inl rfl)) (pss_one (ps_if (pt_cmp (pc_din (hu1 hr) (pv 4) (pv 2))) (pss_one (ps_for PassesOwn.never rfl (pi_list (pe_actS (i := 1) (c' := c') Lv hrZ rfl (Or.inl rfl) (pa_cons (pv 4) pa_nil))) (pg_tup (by rfl) (pgs_cons (pg_name (i := 5) sc_bounds_and_tails.nd rfl (.inl rfl)) (pgs_cons (pg_name (i := 6) sc_bounds_and_tails.nd rfl (.inl rfl)) pgs_nil))) (pss_cons (ps_set (i := 7) sc_bounds_and_tails.nd rfl (.inl rfl) (pe_op op_add (pe_dget (hu1 hr) (pv 2) (pv 4) (fun _ _ => rfl)) (pv 6)))
      (pss_one (ps_if (PW.pt (pw_or (pt_cmp (pc_dnotin (hu1 hr) (pv 5) (pv 2))) (pw_or1 (pt_cmpR op_lt (pv 7) (pe_dget (hu1 hr) (pv 2) (pv 5) (fun _ _ => rfl)) (nomark _))))) (pss_cons (ps_dput (hu1 hr) (pv 2) (pv 5) (pv 7) rfl)
      (pss_one (ps_dput (hu1 hr) (pv 3) (pv 5) (pv 4) rfl))) pss_nil))))) pss_nil)))
      (pss_one (ps_ret (pe_tup (pa_cons (pv 2) (pa_cons (pv 3) pa_nil)))))))), ?_⟩
  refine fun D1 nD1 => ?_
  have k1 := same_upd (o := .dT []) (Same.refl H) nD1
  refine ⟨_, rfl, a, _, 0, _, rfl, rfl, SqT.of (k1 _ _ ea), atI_nat (j := 0) eu0, ?_⟩
  refine ⟨upd_same, keyP p0, b0, rfl, k1 _ _ eb0, ?_⟩
  have b1 : BdT (upd (upd H D1 (.dT [])) D1 (.dT (putK [] (keyP p0) (V.int 0)))) D1 1 ps nV (fset (fun _ => none) 0 0) := ⟨_, upd_same, Nat.le_refl 1, fun j x ex => by
    rw [valV_put]
    by_cases c : j = 0
    · subst c
      rw [g0] at ex
      rw [← Option.some.inj ex, if_pos rfl, fset_same]; rfl
    · have cn : ¬ keyP x = keyP p0 := fun z => c (inj j 0 x ex (by rw [keyP_inj z]; exact g0))
      rw [if_neg cn, fset_ne c]; rfl⟩
  have k2 := same_mut (o := .dT (putK [] (keyP p0) (V.int 0))) k1 nD1
  generalize upd (upd H D1 (.dT [])) D1 (.dT (putK [] (keyP p0) (V.int 0))) = H2 at b1 k2
  refine fun D2 nD2 => ?_
  have nD2H : H D2 = none := by
    cases e : H D2 with
    | none => rfl
    | some o => rw [k2 _ _ e] at nD2; cases nD2
  have nDD : D1 ≠ D2 := by
    obtain ⟨kvs, h1, _⟩ := b1
    exact ne_of_none h1 nD2
  have k3 := same_upd (o := .dT []) k2 nD2
  have b2 : BdT (upd H2 D2 (.dT [])) D1 1 ps nV (fset (fun _ => none) 0 0) := b1.keep fun o e => by rw [upd_ne nDD]; exact e
  have t2 : BdT (upd H2 D2 (.dT [])) D2 0 ps (fun u => us.getD u .non) (fun _ => none) := ⟨[], upd_same, Nat.le_refl 0, fun _ _ _ => rfl⟩
  generalize upd H2 D2 (.dT []) = H3 at k3 b2 t2
  refine ⟨_, rfl, 1, rfl, _, rfl, slA_any (k3 _ _ ea) fun C H4 k34 eC => ?_⟩
  rw [cut_lastT] at eC
  have k4 := k3.trans k34
  have b4 := b2.keep fun o e => k34 _ _ e
  have t4 := t2.keep fun o e => k34 _ _ e
  have len1 : (us.take (us.length - 1)).length = ps.length - 1 := by rw [List.length_take]; omega
  refine ⟨C, rfl, ⟨_, SqT.of eC⟩, ?_⟩
  refine for_it (walk_tup (K := K) (a := C) (xs := us.take (us.length - 1))) (fun i σ' H' => ∃ (f1 g1 : Nat → Option Nat) (x4 x5 x6 x7 : Option V), σ' = [some (.ref a), some (.ref f), some (.ref D1), some (.ref D2), x4, x5, x6, x7] ∧ Same H H' ∧ H' C = some (.tup (us.take (us.length - 1))) ∧ BdT H' D1 (1 + 500 * i) ps nV f1 ∧ BdT H' D2 (500 * i) ps (fun u => us.getD u .non) g1 ∧ Bd (fun r => r ∈ as ∧ r.1 < i) f1 g1) ⟨_, _, none, none, none, none, rfl, k4, eC, b4, t4, Bd.start.congr fun r => ⟨fun z => by omega, fun z => z.elim⟩⟩ ?_ ?_ ?_
  · rintro i σ' H' _ ⟨_, _, _, _, _, _, _, _, e, _⟩
    exact SqT.of e
  · rintro i x σ' H5 H6 hi ⟨f1, g1, x4, x5, x6, x7, rfl, k5, eC5, b5, t5, B⟩ ⟨rfl, hx⟩
    rw [len1] at hi
    rw [List.getElem?_take_of_lt (by omega)] at hx
    obtain ⟨p, ep, bt, rfl, ebt⟩ := lv.at hx
    have hv : us.getD i .non = .ref bt := by rw [List.getD_eq_getElem?_getD, hx]; rfl
    have hn5 : (fun r : Arc => r ∈ as ∧ r.1 < i + 1) = fun r => (r ∈ as ∧ r.1 < i) ∨ (r ∈ as ∧ r.1 = i) := by
      funext r
      apply propext
      constructor
      · rintro ⟨h1, h2⟩
        by_cases c : r.1 < i
        · exact .inl ⟨h1, c⟩
        · exact .inr ⟨h1, by omega⟩
      · rintro (⟨h1, h2⟩ | ⟨h1, h2⟩)
        · exact ⟨h1, by omega⟩
        · exact ⟨h1, by omega⟩
    refine ⟨_, rfl, _, rfl, D1, _, rfl, b5.get ep (k5 _ _ ebt), ?_⟩
    cases hf : f1 i with
    | none =>
      refine ⟨false, rfl, f1, g1, _, _, _, _, rfl, k5, eC5, b5.keep' (by omega), t5.keep' (by omega), ?_⟩
      rw [hn5]
      exact B.none_ fun r hr => by rw [hr.2]; exact hf
    | some x =>
      refine ⟨true, rfl, ?_⟩
      refine ⟨rfl, _, rfl, _, rfl, k5 _ _ hc, hl i _ _ _ (by omega) hx k5 fun H7 b vs k67 nb eb lvb => ?_⟩
      have nb1 : b ≠ D1 := fun z => by
        obtain ⟨_, h1, _⟩ := b5
        rw [z, h1] at nb; cases nb
      have nb2 : b ≠ D2 := fun z => by
        obtain ⟨_, h1, _⟩ := t5
        rw [z, h1] at nb; cases nb
      refine ⟨b, rfl, ⟨_, SqL.of eb⟩, ?_⟩
      have lad : (adjT as i).length ≤ 500 := lA i
      refine for_it (walk_list (K := K) (a := b) (xs := vs)) (fun m σ' H' => ∃ (f2 g2 : Nat → Option Nat) (x5 x6 x7 : Option V), σ' = [some (.ref a), some (.ref f), some (.ref D1), some (.ref D2), some (.ref bt), x5, x6, x7] ∧ Same H H' ∧ H' C = some (.tup (us.take (us.length - 1))) ∧ BdT H' D1 (1 + 500 * i + m) ps nV f2 ∧ BdT H' D2 (500 * i + m) ps (fun u => us.getD u .non) g2 ∧ f2 i = some x ∧ Bd (fun r => (r ∈ as ∧ r.1 < i) ∨ (r.1 = i ∧ r.2 ∈ (adjT as i).take m)) f2 g2 ∧ (∀ (a : Addr) xs, H7 a = some (.tup xs) → H' a = some (.tup xs)) ∧ H' b = some (.lst vs)) ⟨f1, g1, x5, x6, x7, rfl, k5.trans k67, k67 _ _ eC5, b5.keep fun _ e => k67 _ _ e, t5.keep fun _ e => k67 _ _ e, hf, B.congr (fun r => by simp), fun _ _ e => e, eb⟩ ?_ ?_ ?_
      · rintro m σ' H' _ ⟨_, _, _, _, _, _, _, _, _, _, _, _, _, e⟩
        exact SqL.of e
      · rintro m y σ' H8' H8 hm ⟨f2, g2, x5, x6, x7, rfl, k7, eC7, b7, t7, ff, B7, kt, eb7⟩ ⟨rfl, hy⟩
        obtain ⟨r, hr2, c, ch, ph, rfl, eph, ec, ech⟩ := lvb.at hy
        have hmem : (i, r) ∈ as := adjT_mem.mp (List.mem_of_getElem? hr2)
        have hup := ok.2.2.1 _ hmem
        have hup : i < r.1 ∧ r.1 < ps.length := hup
        have hm2 : m < (adjT as i).length := (List.getElem?_eq_some_iff.mp hr2).1
        have hpr : ∀ r', ((r' ∈ as ∧ r'.1 < i) ∨ (r'.1 = i ∧ r'.2 ∈ (adjT as i).take m)) → r'.1 ≤ i := fun r' h => by
          rcases h with h | h <;> omega
        have hnx : (fun r' : Arc => (r' ∈ as ∧ r'.1 < i) ∨ (r'.1 = i ∧ r'.2 ∈ (adjT as i).take (m + 1))) = fun r' => ((r' ∈ as ∧ r'.1 < i) ∨ (r'.1 = i ∧ r'.2 ∈ (adjT as i).take m)) ∨ r' = (i, r.1, r.2) := by
          funext r'
          apply propext
          rw [show (adjT as i).take (m + 1) = (adjT as i).take m ++ [r] by rw [List.take_succ, hr2]; rfl, List.mem_append, List.mem_singleton]
          constructor
          · rintro (h | ⟨h1, h2 | h2⟩)
            · exact .inl (.inl h)
            · exact .inl (.inr ⟨h1, h2⟩)
            · exact .inr (by rw [← h1, ← h2])
          · rintro ((h | ⟨h1, h2⟩) | h)
            · exact .inl h
            · exact .inr ⟨h1, .inl h2⟩
            · exact .inr ⟨by rw [h], .inr (by rw [h])⟩
        have ebt8 := k7 _ _ ebt
        have ech8 := kt _ _ ech
        refine ⟨c, _, rfl, SqT.of (kt _ _ ec), rfl, _, _, rfl, _, _, rfl, rfl, ?_⟩
        have gi := b7.get ep ebt8
        rw [ff] at gi
        refine ⟨_, rfl, _, rfl, D1, _, rfl, gi, _, rfl, _, _, rfl, rfl, ?_⟩
        have gh := b7.get eph ech8
        refine ⟨_, rfl, _, rfl, D1, _, rfl, gh, ?_⟩
        have put : (∀ y, f2 r.1 = some y → x + r.2 < y) → ∃ H9 H10, DPut H8 D1 (.ref ch) (nV (x + r.2)) H9 ∧ DPut H9 D2 (.ref ch) (.ref bt) H10 ∧ ∃ f3 g3, Same H H10 ∧ H10 C = some (.tup (us.take (us.length - 1))) ∧ BdT H10 D1 (1 + 500 * i + (m + 1)) ps nV f3 ∧ BdT H10 D2 (500 * i + (m + 1)) ps (fun u => us.getD u .non) g3 ∧ f3 i = some x ∧ Bd (fun r => (r ∈ as ∧ r.1 < i) ∨ (r.1 = i ∧ r.2 ∈ (adjT as i).take (m + 1))) f3 g3 ∧ (∀ (a : Addr) xs, H7 a = some (.tup xs) → H10 a = some (.tup xs)) ∧ H10 b = some (.lst vs) := fun lo => by
          obtain ⟨H9, p1, b9, o9, e9⟩ := b7.put inj (by omega) eph ech8 (x + r.2)
          obtain ⟨kv1, q1, _⟩ := id b7
          obtain ⟨kv2, q2, _⟩ := id t7
          have t9 : BdT H9 D2 (500 * i + m) ps (fun u => us.getD u .non) g2 := t7.keep fun o e => by rw [e9, upd_ne nDD.symm]; exact e
          have ech9 : H9 ch = some (.tup [nV ph.1, nV ph.2]) := by rw [e9, upd_ne (fun z => by rw [z, q1] at ech8; cases ech8)]; exact ech8
          obtain ⟨H10, p2, t10, o10, e10⟩ := t9.put inj (by omega) eph ech9 i
          have p2 : DPut H9 D2 (.ref ch) (.ref bt) H10 := by rw [← hv]; exact p2
          have b10 : BdT H10 D1 (1 + 500 * i + m + 1) ps nV (fset f2 r.1 (x + r.2)) := b9.keep fun o e => by rw [e10, upd_ne nDD]; exact e
          refine ⟨H9, H10, p1, p2, _, _, ?_, ?_, b10, t10, by rw [fset_ne (by omega)]; exact ff, ?_, fun a xs e => ?_, ?_⟩
          · rw [e10, e9]; exact same_mut (same_mut k7 nD1) nD2H
          · rw [e10, e9, upd_ne (fun z => by rw [z, q2] at eC7; cases eC7), upd_ne (fun z => by rw [z, q1] at eC7; cases eC7)]; exact eC7
          · rw [hnx]; exact B7.put hpr hup.1 ff lo
          · have e2 := kt _ _ e
            rw [e10, e9, upd_ne (fun z => by rw [z, q2] at e2; cases e2), upd_ne (fun z => by rw [z, q1] at e2; cases e2)]; exact e2
          · rw [e10, e9, upd_ne nb2, upd_ne nb1]; exact eb7
        cases hh : f2 r.1 with
        | none =>
          rw [hh] at gh
          obtain ⟨H9, H10, p1, p2, f3, g3, r1, r2, r3, r4, r5, r6, r7, r8⟩ := put fun y h => by rw [hh] at h; cases h
          refine ⟨true, rfl, ?_⟩
          refine ⟨_, rfl, _, rfl, _, rfl, D1, H9, rfl, p1, ?_⟩
          refine ⟨_, rfl, _, rfl, _, rfl, D2, H10, rfl, p2, ?_⟩
          exact ⟨f3, g3, _, _, _, rfl, r1, r2, r3, r4, r5, r6, r7, r8⟩
        | some y =>
          have gh2 := gh
          rw [hh] at gh2
          rw [hh] at gh
          refine ⟨false, rfl, ?_⟩
          refine ⟨_, rfl, _, rfl, _, rfl, D1, _, rfl, gh2, _, _, rfl, rfl, ?_⟩
          by_cases lt : x + r.2 < y
          · obtain ⟨H9, H10, p1, p2, f3, g3, r1, r2, r3, r4, r5, r6, r7, r8⟩ := put fun y' h => by rw [hh] at h; have := Option.some.inj h; omega
            refine ⟨true, bTr (by omega), ?_⟩
            refine ⟨_, rfl, _, rfl, _, rfl, D1, H9, rfl, p1, ?_⟩
            refine ⟨_, rfl, _, rfl, _, rfl, D2, H10, rfl, p2, ?_⟩
            exact ⟨f3, g3, _, _, _, rfl, r1, r2, r3, r4, r5, r6, r7, r8⟩
          · refine ⟨false, bFa (by omega), ?_⟩
            refine ⟨f2, g2, _, _, _, rfl, k7, eC7, b7.keep' (by omega), t7.keep' (by omega), ff, ?_, kt, eb7⟩
            rw [hnx]; exact B7.skip hpr hup.1 ff hh (by omega)
      · rintro σ' H8 ⟨f2, g2, x5, x6, x7, rfl, k7, eC7, b7, t7, ff, B7, kt, eb7⟩
        have em : vs.length = (adjT as i).length := lvb.1
        refine ⟨f2, g2, _, _, _, _, rfl, k7, eC7, b7.keep' (by omega), t7.keep' (by omega), ?_⟩
        rw [hn5]
        refine B7.congr fun r => ?_
        rw [em, List.take_length, adjT_mem]
        constructor
        · rintro (h | ⟨h1, h2⟩)
          · exact .inl h
          · exact .inr ⟨h2, by rw [← h2]; exact h1⟩
        · rintro (h | ⟨h1, h2⟩)
          · exact .inl h
          · exact .inr ⟨by rw [← h1] at h2; exact h2, h1⟩
  · rintro σ' H5 ⟨f1, g1, x4, x5, x6, x7, rfl, k5, eC5, b5, t5, B⟩
    rw [len1] at B
    refine ⟨_, rfl, _, rfl, by show 2 ≤ sizeLine; decide, fun R nR => ?_⟩
    have nD1R : D1 ≠ R := by
      obtain ⟨kvs, h1, _⟩ := b5
      exact ne_of_none h1 nR
    have nD2R : D2 ≠ R := by
      obtain ⟨kvs, h1, _⟩ := t5
      exact ne_of_none h1 nR
    exact q (upd H5 R (.tup [.ref D1, .ref D2])) R D1 D2 f1 g1 (1 + 500 * (us.take (us.length - 1)).length) (same_upd k5 nR) upd_same (b5.keep fun o e => by rw [upd_ne nD1R]; exact e) ((t5.keep' (by omega)).keep fun o e => by rw [upd_ne nD2R]; exact e) (B.congr fun r => ⟨fun h => ⟨h, by have := ok.2.2.1 r h; omega⟩, fun h => h.1⟩)
end
end Vf

set_option Elab.async false
set_option linter.all false
set_option maxRecDepth 100000
set_option maxHeartbeats 4000000
namespace Vf
open PySem PySem.Spec PyProof.Rows L2 TL
/-! ### bounds: there are some, and only one -/
theorem bd_take {l : List Arc} (pw : l.Pairwise fun a b => a.1 ≤ b.1) (up : ∀ a ∈ l, a.1 < a.2.1) : ∀ k, k ≤ l.length → ∃ f g, Bd (· ∈ l.take k) f g
  | 0, _ => ⟨_, _, Bd.start.congr fun a => ⟨fun h => (nomatch (show a ∈ ([] : List Arc) from h)), fun h => False.elim h⟩⟩
  | k + 1, hk => by
    obtain ⟨f, g, B⟩ := bd_take pw up k (by omega)
    obtain ⟨r, er⟩ : ∃ r, l[k]? = some r := ⟨_, List.getElem?_eq_getElem hk⟩
    have et : l.take (k + 1) = l.take k ++ [r] := by rw [List.take_succ, er]; rfl
    have hup : r.1 < r.2.1 := up r (List.mem_of_getElem? er)
    have hp : ∀ a, a ∈ l.take k → a.1 ≤ r.1 := fun a ha => by
      rw [← List.take_append_drop k l, List.pairwise_append] at pw
      have : r ∈ l.drop k := by
        rw [List.drop_eq_getElem_cons hk, (List.getElem?_eq_some_iff.mp er).2]
        exact List.mem_cons_self
      exact pw.2.2 a ha r this
    have con : ∀ {f g : Nat → Option Nat}, Bd (fun a => a ∈ l.take k ∨ a = (r.1, r.2.1, r.2.2)) f g → ∃ f g, Bd (· ∈ l.take (k + 1)) f g := fun {f g} h => ⟨f, g, h.congr fun a => by
      rw [et, List.mem_append, List.mem_singleton]⟩
    cases hf : f r.1 with
    | none => exact con (B.none_ (P2 := fun a => a = (r.1, r.2.1, r.2.2)) fun a ha => by rw [ha]; exact hf)
    | some x =>
      cases hh : f r.2.1 with
      | none => exact con (B.put hp hup hf fun y h => by rw [hh] at h; cases h)
      | some y =>
        by_cases c : x + r.2.2 < y
        · exact con (B.put hp hup hf fun y' h => by rw [hh] at h; have := Option.some.inj h; omega)
        · exact con (B.skip hp hup hf hh (by omega))
theorem bd_ex {l : List Arc} (pw : l.Pairwise fun a b => a.1 ≤ b.1) (up : ∀ a ∈ l, a.1 < a.2.1) : ∃ f g, Bd (· ∈ l) f g := by
  obtain ⟨f, g, B⟩ := bd_take pw up l.length (Nat.le_refl _)
  rw [List.take_length] at B
  exact ⟨f, g, B⟩
theorem bd_one {Pr : Arc → Prop} {f g f' g' : Nat → Option Nat} (B : Bd Pr f g) (C : Bd Pr f' g') (up : ∀ a, Pr a → a.1 < a.2.1) : ∀ n v, v < n → f v = f' v ∧ g v = g' v
  | 0, _, h => absurd h (Nat.not_lt_zero _)
  | n + 1, v, h => by
    have ih := bd_one B C up n
    by_cases hv : v = 0
    · subst hv; exact ⟨by rw [B.z.1, C.z.1], by rw [B.z.2, C.z.2]⟩
    · cases e : f v with
      | none =>
        cases e' : f' v with
        | none => exact ⟨rfl, by rw [(B.n v hv e).1, (C.n v hv e').1]⟩
        | some y' =>
          obtain ⟨u, c, x, h1, h2, h3, _⟩ := C.s v y' hv e'
          have hu : u < v := up _ h2
          rw [← (ih u (by omega)).1] at h3
          rw [(B.n v hv e).2 u c h2] at h3; cases h3
      | some y =>
        obtain ⟨u, c, x, h1, h2, h3, h4, h5⟩ := B.s v y hv e
        have hu : u < v := up _ h2
        have h3' := h3
        rw [(ih u (by omega)).1] at h3'
        obtain ⟨y', e', l'⟩ := C.le h2 h3'
        obtain ⟨u', c', x', k1, k2, k3, k4, k5⟩ := C.s v y' hv e'
        have hu' : u' < v := up _ k2
        have k3' := k3
        rw [← (ih u' (by omega)).1] at k3'
        obtain ⟨l1, l2⟩ := h5 u' c' x' k2 k3'
        obtain ⟨m1, m2⟩ := k5 u c x h2 h3'
        have ey : y = y' := by omega
        have := l2 (by omega)
        have := m2 (by omega)
        refine ⟨by rw [e', ey], by rw [h1, k1, show u = u' by omega]⟩
theorem bd_eq {Pr : Arc → Prop} {f g f' g' : Nat → Option Nat} (B : Bd Pr f g) (C : Bd Pr f' g') (up : ∀ a, Pr a → a.1 < a.2.1) : f = f' ∧ g = g' :=
  ⟨funext fun v => (bd_one B C up (v + 1) v (Nat.lt_succ_self v)).1, funext fun v => (bd_one B C up (v + 1) v (Nat.lt_succ_self v)).2⟩
/-! ### the arcs of rows -/
theorem adj_own {a : Nat} {l : List Arc} (h : ∀ x ∈ l, x.1 = a) (i : Nat) : adjT l i = if a = i then l.map (·.2) else [] := by
  induction l with
  | nil => by_cases c : a = i <;> simp [adjT, c]
  | cons x l ih =>
    have hx := h x List.mem_cons_self
    have ih := ih fun y hy => h y (List.mem_cons_of_mem _ hy)
    unfold adjT at ih ⊢
    by_cases c : a = i
    · rw [if_pos c] at ih ⊢
      rw [List.filterMap_cons_some (b := x.2) (by rw [if_pos (by omega)]), ih]; rfl
    · rw [if_neg c] at ih ⊢
      rw [List.filterMap_cons_none (by rw [if_neg (by omega)]), ih]
theorem adj_flat {R : Nat → List Arc} (hR : ∀ a, ∀ x ∈ R a, x.1 = a) (i : Nat) : ∀ m, adjT ((List.range m).flatMap R) i = if i < m then (R i).map (·.2) else []
  | 0 => by rw [if_neg (Nat.not_lt_zero _)]; rfl
  | m + 1 => by
    have ih := adj_flat hR i m
    have ha : adjT (R m) i = if m = i then (R m).map (·.2) else [] := adj_own (hR m) i
    have e : adjT ((List.range (m + 1)).flatMap R) i = adjT ((List.range m).flatMap R) i ++ adjT (R m) i := by
      rw [List.range_succ, List.flatMap_append, List.flatMap_cons, List.flatMap_nil, List.append_nil]
      unfold adjT
      rw [List.filterMap_append]
    rw [e, ih, ha]
    by_cases c : m = i
    · subst c
      rw [if_neg (Nat.lt_irrefl _), if_pos rfl, if_pos (Nat.lt_succ_self _)]; rfl
    · rw [if_neg c, List.append_nil]
      by_cases d : i < m
      · rw [if_pos d, if_pos (by omega)]
      · rw [if_neg d, if_neg (by omega)]
theorem flat_pw {R : Nat → List Arc} (hR : ∀ a, ∀ x ∈ R a, x.1 = a) (m : Nat) : ((List.range m).flatMap R).Pairwise fun a b => a.1 ≤ b.1 := by
  rw [List.pairwise_flatMap]
  refine ⟨fun a _ => List.pairwise_of_forall_mem_list fun x hx y hy => by rw [hR a x hx, hR a y hy]; exact Nat.le_refl _, ?_⟩
  exact (List.pairwise_lt_range).imp fun {a b} h x hx y hy => by rw [hR a x hx, hR b y hy]; exact Nat.le_of_lt h
section
variable {M L : Nat} {S : Sty} {Z : List (List Nat)}
theorem rowQ_fst : ∀ a, ∀ x ∈ rowQ M L S Z a, x.1 = a := fun a x hx => by
  unfold rowQ at hx
  obtain ⟨y, _, rfl⟩ := List.mem_map.mp hx
  rfl
theorem netQ_pw : (netQ M L S Z).Pairwise fun a b => a.1 ≤ b.1 := flat_pw rowQ_fst _
/-- the arc from a to b, if it fits -/
def arcAt (M L : Nat) (S : Sty) (Z : List (List Nat)) (a b : Nat) : Option Arc := arcD M L S Z ((posL S Z).getD a (0, 0)).1 ((posL S Z).getD a (0, 0)).2 a b ((posL S Z).getD b (0, 0))
theorem rowQ_at {a : Nat} (ha : a + 1 < (posL S Z).length) : rowQ M L S Z a = (List.range ((posL S Z).length - (a + 1))).filterMap fun s => arcAt M L S Z a (a + 1 + s) := by
  have e : (posL S Z)[a]? = some (posL S Z)[a] := List.getElem?_eq_getElem (by omega)
  have ⟨h1, h2⟩ := pos_body e ha
  rw [rowQ_law e h1 h2]
  refine fmp_cong fun s hs => ?_
  have hs := List.mem_range.mp hs
  have eb : (posL S Z)[a + 1 + s]? = some (posL S Z)[a + 1 + s] := List.getElem?_eq_getElem (by omega)
  unfold arcAt
  rw [eb, getD_of eb, getD_of e]; rfl
theorem arcAt_is {a b : Nat} {x : Arc} (h : arcAt M L S Z a b = some x) : x.1 = a ∧ x.2.1 = b := by
  unfold arcAt arcD at h
  split at h
  · rw [← Option.some.inj h]; exact ⟨rfl, rfl⟩
  · cases h
theorem netQ_up : ∀ a ∈ netQ M L S Z, a.1 < a.2.1 ∧ a.2.1 < (posL S Z).length := fun x hx => by
  unfold netQ at hx
  obtain ⟨a, ha, hx⟩ := List.mem_flatMap.mp hx
  have ha := List.mem_range.mp ha
  rw [rowQ_at (by omega)] at hx
  obtain ⟨s, hs, e⟩ := List.mem_filterMap.mp hx
  have hs := List.mem_range.mp hs
  have := arcAt_is e
  omega
theorem pos_pos : 1 ≤ (posL S Z).length := by
  unfold posL
  rw [List.length_append]
  exact Nat.le_add_left _ _
theorem netQ_adj {i : Nat} (hi : i + 1 < (posL S Z).length) : adjT (netQ M L S Z) i = (rowQ M L S Z i).map (·.2) := by
  unfold netQ
  rw [adj_flat rowQ_fst, if_pos (by omega)]
theorem netQ_adj0 {i : Nat} (hi : (posL S Z).length ≤ i + 1) : adjT (netQ M L S Z) i = [] := by
  unfold netQ
  rw [adj_flat rowQ_fst, if_neg (by omega)]
theorem rowQ_len {i : Nat} (hi : i + 1 < (posL S Z).length) : (rowQ M L S Z i).length ≤ (posL S Z).length - (i + 1) := by
  rw [rowQ_at hi]
  have := List.length_filterMap_le (fun s => arcAt M L S Z i (i + 1 + s)) (List.range ((posL S Z).length - (i + 1)))
  rwa [List.length_range] at this
theorem adjQ_len (i : Nat) : (adjT (netQ M L S Z) i).length ≤ (posL S Z).length - (i + 1) := by
  by_cases c : i + 1 < (posL S Z).length
  · rw [netQ_adj c, List.length_map]; exact rowQ_len c
  · rw [netQ_adj0 (by omega)]; exact Nat.zero_le _
theorem netQ_T (h : (posL S Z).length ≤ 91) : NetT (posL S Z).length (netQ M L S Z) :=
  ⟨pos_pos, by omega, netQ_up, fun i => by have := adjQ_len (M := M) (L := L) (S := S) (Z := Z) i; omega⟩
theorem netQ_bd : ∃ f g, Bd (· ∈ netQ M L S Z) f g := bd_ex netQ_pw fun a h => (netQ_up a h).1
end
/-! ### items of a search for all ways -/
def Itm (f g : Nat → Option Nat) (c : Nat × List Nat) : Prop := ∃ v r y, c.2 = v :: r ∧ f v = some y ∧ LeI (y :: Rw g v) (c.1 :: c.2)
theorem itm_step {as : List Arc} {f g : Nat → Option Nat} (B : Bd (· ∈ as) f g) (up : ∀ a ∈ as, a.1 < a.2.1) {c : Nat × List Nat} {v u k : Nat} {r : List Nat} (h : Itm f g c) (e : c.2 = v :: r) (ha : (v, u, k) ∈ as) : Itm f g (c.1 + k, u :: c.2) := by
  obtain ⟨v', r', y', e', e1, l1⟩ := h
  rw [e] at e'
  obtain ⟨rfl, rfl⟩ := List.cons.inj e'
  obtain ⟨y, e2, l2⟩ := best_arc B up ha e1
  refine ⟨u, _, y, rfl, e2, ?_⟩
  show LeI (y :: Rw g u) ((c.1 + k) :: u :: c.2)
  rw [e] at l1 ⊢
  generalize v :: r = q at l1 ⊢
  have l3 : LeI ((y' + k) :: u :: Rw g v) ((c.1 + k) :: u :: q) := by
    rcases l1 with l | l
    · cases l with
      | rel r =>
        have r : (y' : Int) < (c.1 : Int) := r
        exact LeI.head (by omega)
      | cons r => exact .inl (zI_lt_cons (zI_lt_cons r))
    · injection l with l4 l5
      rw [l4, l5]; exact .inr rfl
  rcases l2 with l2 | l2
  · rcases l3 with l3 | l3
    · exact .inl (List.lt_trans l2 l3)
    · rw [← l3]; exact .inl l2
  · rw [l2]; exact l3
end Vf

set_option Elab.async false
set_option linter.all false
set_option maxRecDepth 100000
set_option maxHeartbeats 4000000
/-! ### isinstance of an exception that has its own dict -/
namespace PySem.W
open PySem PySem.Spec PySem.Calls PyProof.Rows
section
variable {prog : Program} {w : World} {A : Around} {E : Value → Shared → Prop} {s : Shared} {K : Frag} {x D : Addr} {ox : Obj} {od : Option Obj}
theorem vf_data {name : Str} {a g : Value} (hc : (clsIn K D).isSome = true) (ha : findIn K (.ref D) name = some (some a)) (hg : specialIn K a "__get__" = some (some g)) (ht : takesIn K a = some true) :
    findObj K D od name = some (.bind g a) := by
  cases e : clsIn K D with
  | none => rw [e] at hc; cases hc
  | some cd =>
    unfold findObj
    rw [e, Option.bind_some, ha, Option.bind_some]
    simp [hg, ht]
theorem vf_class {Q : Option Value → Shared → Prop} (C : L2.ExcC K D) (X : K.In s.heap) (I : InstAt s.heap x ox D od) (q : Q (some (.ref D)) { s with toks := s.toks + 1 }) :
    wpAny (model prog w) A (getAttr? (.ref x) "__class__") Q E s := by
  have found : findObj K D od "__class__" = some (.bind (.builtin "getset_descriptor.__get__") (.builtin "object.__class__")) :=
    vf_data (by obtain ⟨cd, e, _⟩ := any_some C.hd; rw [e]; rfl) C.ha C.hn C.ht
  rcases s with ⟨hp, g, d, t, os⟩
  have l0 := I.type (M := model prog w)
  have l1 := looks_findIn (M := model prog w) X C.hg
  have l2 := looks_findIn (M := model prog w) X C.hk
  have l3 := looks_find (M := model prog w) X I found
  have lb : Looks (model prog w) hp (isInstance (.ref x) (.type "BaseException")) true := l0.andThen (looks_subIn X C.hs)
  have n0 : (false && onTheHeap (Value.builtin "BaseException.__getattribute__")) = false := rfl
  have n1 : (onTheHeap (Value.ref D) && Value.builtin "BaseException.__getattribute__" == Value.builtin "object.__getattribute__") = false := by
    have n2 : (Value.builtin "BaseException.__getattribute__" == Value.builtin "object.__getattribute__") = false := by decide +kernel
    rw [n2]
    rfl
  unfold getAttr? getAttrBy? getAttrBy
  refine wpAny_bind (wpAny_mkText (wpAny_bind (wpAny_attempt (wpAny_holding ?_))))
  refine wpAny_bind (l0.at (wpAny_bind (l1.at ?_)))
  show wpAny _ _ (ite ((onTheHeap (Value.ref D) && Value.builtin "BaseException.__getattribute__" == Value.builtin "object.__getattribute__") = true) _ _) _ _ _
  rw [n1, if_neg Bool.false_ne_true]
  unfold getAttrByItsOwn hookBefore
  apply wpAny_bind
  rw [if_pos (show onTheHeap (Value.ref D) = true from rfl)]
  apply l2.at
  apply wpAny_bind
  apply wpAny_attempt
  apply wpAny_holding
  unfold callGetattribute
  rw [n0, if_neg Bool.false_ne_true]
  unfold boundAndCalled
  rw [PySem.F.excAttr_ValueError.ga.bind (.ref x)]
  apply wpAny_bind
  apply wpAny_pure
  show wpAny _ _ (call (Value.builtin "BaseException.__getattribute__") [Value.ref x, Value.str "__class__" t]) _ _ _
  apply wpAny_call
  apply codeAny_call_builtin PySem.F.excAttr_ValueError.ga.plain PySem.F.entry_bexc_ga
  refine @check_slot (model prog w) _ _ ⟨hp, g, d, t + 1, os⟩ "BaseException.__getattribute__" "BaseException" "__getattribute__" (.ref x) [.str "__class__" t] []
    _ (by decide +kernel) (by decide +kernel) lb (PySem.F.args_bexc_ga (.ref x) (.str "__class__" t)) ?_
  unfold Builtin.«object.__getattribute__»
  apply wpAny_bind
  apply wpAny_of_eq (a := ((Value.ref x : Value), [Value.str "__class__" t])) (by first | rfl | (simp only [slotArgs]; rfl))
  apply wpAny_bind
  apply wpAny_pure
  apply wpAny_bind
  apply l0.at
  apply wpAny_bind
  apply l3.at
  show wpAny _ _ (holding [Value.builtin "object.__class__"] (call (Value.builtin "getset_descriptor.__get__") [Value.builtin "object.__class__", Value.ref x, Value.ref D]) >>= ret) _ _ _
  apply wpAny_bind
  apply wpAny_holding
  apply wpAny_call
  apply class_get (s := ⟨hp, g, d, t + 1, os⟩) (ox := ox) (od := od) X I C.hm
  apply wpAny_pure
  show wpAny _ _ (handedOut (Value.ref D)) _ _ _
  rw [handedOut_of (v := Value.ref D) rfl]
  first | exact wpAny_pure (wpAny_pure q) | exact wpAny_pure q | exact wpAny_pure (wpAny_bind (wpAny_pure (wpAny_pure q)))
theorem vf_kit (C : L2.ExcC K D) : KitX K (.ref x) (.ref D) (fun h => InstAt h x ox D od) := by
  obtain ⟨cdD, hcD, _⟩ := any_some C.hd
  refine ⟨fun _ _ _ I => I.type, fun _ _ X _ => ?_, fun h tp dd its n sl X htp => ?_, fun X I k => vf_class C X I k⟩
  · unfold clsIn at hcD
    split at hcD
    · next e =>
      intro A' Q' E' s' k q
      unfold isType loadHead
      exact wpAny_bind (wpAny_loadPart (k _ _ (X _ _ e)) (wpAny_pure q))
    · cases hcD
  · apply Bool.eq_false_iff.mpr
    intro q
    have e : D = tp := Value.ref.inj (beq_iff_eq.mp q)
    rw [← e] at htp
    unfold clsIn at hcD
    split at hcD
    · next e2 =>
      have z := (X _ _ e2).symm.trans htp
      cases z
    · cases hcD
end
end PySem.W
namespace Vf
open PySem PySem.Spec PyProof.Rows L2 L2H TL
/-- the pinned exception p: of the class D, its dict at d -/
structure ExcAt (K : PySem.W.Frag) (D d : Addr) (p : Addr × Obj) : Prop where
  z : Zc (.ref D) (some d) p.2
  f : ∃ vs, p.2.data = .fields vs
theorem ExcAt.inst {X : Cx} {K : PySem.W.Frag} {D d : Addr} {p : Addr × Obj} {pins : List (Addr × Obj)} {σ : L2.St} {H : Hp} {s : Shared} {fs : List (Str × V)} (c : ExcAt K D d p) (I : Inv X pins σ H s) (hp : p ∈ X.pn) (hd : H d = some (.xd fs)) :
    ∃ (od : Obj) (mA : Str → Option Value), PySem.W.InstAt s.heap p.1 p.2 D (some od) ∧ (∀ n, PySem.W.lookIn n od = some (mA n)) ∧ ∀ n, RelO (fs.lookup n) (mA n) := by
  have hx : ObjOk X.prog X.w H s.heap d (.xd fs) := I.hok d _ hd
  obtain ⟨mA, hns, hr⟩ := hx
  obtain ⟨od, ho, hl⟩ := lookIn_ns hns
  obtain ⟨vs, hv⟩ := c.f
  have ha := (I.pin p (List.mem_append_left _ hp)).1
  exact ⟨od, mA, ⟨ha, c.z.1, (by unfold PySem.W.notCls; rw [hv] <;> rfl), (by rw [c.z.2]; exact ho)⟩, hl, hr⟩
/-- isinstance(e, c) of the pinned exception -/
def rIsP (K : PySem.W.Frag) (D d : Addr) (p : Addr × Obj) (xs : List V) (H : Hp) (Q : VK) : Prop :=
  ∃ (c : V) (cv : Value) (b : Bool) (fs : List (Str × V)), xs = [.ref p.1, c] ∧ ClsV c cv ∧
    PySem.W.kitOne K (.ref D) cv = some b ∧ H d = some (.xd fs) ∧ Q (.bl b) H
theorem call_isP {X : Cx} {D d : Addr} {p : Addr × Obj} (C : ExcC X.K D) (c : ExcAt X.K D d p) (hp : p ∈ X.pn) : CallR X (.builtin "isinstance") (rIsP X.K D d p) := by
  intro pins s σ H xs us Q I r h
  obtain ⟨cc, cv, b, fs, rfl, hcv, e, hd, q⟩ := h
  obtain ⟨u1, u2, rfl, r1, r2⟩ := vals2 r
  have e1 : u1 = Value.ref p.1 := r1
  have e2 := hcv.eq r2
  subst e1 e2
  obtain ⟨od, mA, J, _, _⟩ := c.inst I hp hd
  exact PySem.W.kia_one (PySem.W.vf_kit C) I.kIn J e (fun z => nomatch z) fun tk => ⟨.bl b, H, I.kept (t' := tk) fun _ _ z => z, rfl, q⟩
/-- e.n of the pinned exception -/
def tXp (d : Addr) (p : Addr × Obj) (n : Str) (te : TE) (σ : L2.St) (H : Hp) (Q : VK) : Prop :=
  te σ H fun x H1 => x = .ref p.1 ∧ ∃ (fs : List (Str × V)) (v : V), H1 d = some (.xd fs) ∧ fs.lookup n = some v ∧ Q v H1
theorem pe_xp {X : Cx} {D d : Addr} {p : Addr × Obj} {e : Expr} {te : TE} {pos : Pos} {n : Str} (C : XfC X.K D) (hno : PySem.W.findIn X.K (.ref D) n = some none) (c : ExcAt X.K D d p) (hp : p ∈ X.pn) (he : PE X e te)
    (hb : attributeBase e n X.env (eval e X.env) = eval e X.env := by rfl) : PE X (.Attribute e n pos) (tXp d p n te) := by
  constructor
  intro pins s σ H Q I h
  refine attr_of hb (thn (he.run pins s σ H _ I h) fun u s1 hh => ?_)
  obtain ⟨x, H1, I1, rx, ex, fs, v, hd, l, q⟩ := hh
  subst ex
  have eu : u = Value.ref p.1 := rx
  subst eu
  obtain ⟨od, mA, J, hl, hr⟩ := c.inst I1 hp hd
  obtain ⟨y, hy, ry⟩ := RelO.some_of (v := v) (o := mA n) (by rw [← l]; exact hr n)
  exact HandSPX.exc_get I1.kIn J C.ga C.gg C.exC (PySem.W.findObj_own C.hdC hno rfl (by rw [hl, hy])) (handed_of ry) ⟨v, H1, I1.tok _, ry, q⟩
/-! ### a def that is called where an exception is held, and knows it -/
structure FnP (P : Program) (w : World) (K : PySem.W.Frag) (mg : Str → Option Value) (base : Heap) (k : Nat) (f : Addr) (fd : FuncData) (ps : List Str) (sp : (Addr × Obj) → List V → Hp → VK → Prop) : Prop where
  len : ∀ p vs H Q, sp p vs H Q → vs.length = ps.length
  run : ∀ (A : Around) (outer : List Env) (s : Shared) (H : Hp) (us : List Value) (vs : List V) (Q : VK) (p : Addr × Obj),
    RoomH k A → Hot1 A p → PinOk outer H s p → Env0 P w K mg base A outer s H → BindsTo s fd ⟨us, []⟩ (ps.zip us) → Vals vs us → sp p vs H Q →
    codeAny (model P w) A (.call (.ref f) ⟨us, []⟩) (CR CX0 outer P w H s Q E0) s
/-- the held exception alone -/
abbrev cxP (P : Program) (w : World) (K : PySem.W.Frag) (mg : Str → Option Value) (base : Heap) (N : List Str) (qual : Str) (scope : Scope) (f : Addr) (cd : Value) (A : Around) (outer : List Env) (s : Shared) (H : Hp) (p : Addr × Obj) : Cx :=
  cxH CX0 P w K mg base N qual scope f cd A outer s H E0 p
section
variable {P : Program} {w : World} {K : PySem.W.Frag} {mg : Str → Option Value} {base : Heap} {k : Nat} {f : Addr} {fd : FuncData}
/-- from a def's body, as FnH's: by that rule, at the one exception -/
theorem FnP.of {x qual : Str} {st : Stmt} {N ps : List Str} {sp : (Addr × Obj) → List V → Hp → VK → Prop} (F : L2.Fun K x qual st f fd) (S : FnScope N ps (defScope st)) (len : ∀ p vs H Q, sp p vs H Q → vs.length = ps.length)
    (body : ∀ (cdv : Value) (A : Around) (outer : List Env) (s : Shared) (H : Hp) (vs : List V) (Q : VK) (p : Addr × Obj), Hot1 A p → RoomH k (A.deeper (envOfC qual (defScope st) s.heap.objs.size f cdv)) → sp p vs H Q →
      ∃ t, PSs (cxP P w K mg base N qual (defScope st) f cdv A outer s H p).nox (defBody st) t ∧ t { nx := fun _ H' => Q .non H', rt := Q } (L2.start N vs) H) : FnP P w K mg base (k + 1) f fd ps sp := by
  obtain ⟨oc, od, kV, doc, pm, an, cdv, ct, osl, rfl, lk, hcd⟩ := F.ex
  refine ⟨len, fun A outer s H us vs Q p hr hot hpin e0 hb r hsp => ?_⟩
  have hl := len _ _ _ _ hsp
  have KX : K.In s.heap := e0.mod.kin.keeps fun b o e => (e0.bs b o e).1
  have lim : s.heap.NoLimit := e0.mod.nolimit.keeps fun b o e => (e0.bs b o e).1
  have kinds : ∀ y ∈ ps.zip us, (defScope st).names.lookup y.1 = some .local ∨
      ((defScope st).names.lookup y.1 = some .cell ∧ ((cellsFrom (s.heap.objs.size + 1) (defScope st).names []).lookup y.1).isSome = true) := by
    rintro ⟨n, v⟩ hy
    rcases S.par n (List.of_mem_zip hy).1 with q | q
    · exact .inl q
    · exact .inr ⟨q, PySem.W.cellsFrom_some _ _ _ (.inl q)⟩
  refine codeAny_call_function hr.depth (KX _ _ lk) rfl S.co S.gen rfl (PySem.W.codeRec_of KX hcd) (hb _ _ _ _ ?_)
  refine wpAny_newFunctionEnv_cells S.kind kinds fun env he s1 x => ?_
  subst he
  refine ⟨lim.keeps x.toInCall.keep, codeAny_func ?_⟩
  obtain ⟨t, ht, hq⟩ := body cdv A outer s H vs Q p hot (hr.deeper _) hsp
  have I := inv_startH (CX := CX0) (E := E0) S hpin e0 hl r x
  refine wpAny_mono (ht.nox.run [] s1 (L2.start N vs) H _ I hq) (fun fl s' hs => ?_) fun e s' hs => hs
  have fin : ∀ {σ' : L2.St} {H' : Hp} {v : V} {u : Value}, Inv (cxP P w K mg base N qual (defScope st) f cdv A outer s H p) [] σ' H' s' → RelV v u → Q v H' → CE outer P w H s Q u s' := by
    intro σ' H' v u J rv q
    exact ⟨v, H', J.os, J.bare, J.base, J.hok, rv, q⟩
  cases fl with
  | ret u => obtain ⟨v, σ', H', J, rv, q⟩ := hs; exact fin J rv q
  | next => obtain ⟨σ', H', J, q⟩ := hs; exact fin (v := V.non) (u := Value.none) J rfl q
  | brk => obtain ⟨_, _, _, q⟩ := hs; exact q.elim
  | cont => obtain ⟨_, _, _, q⟩ := hs; exact q.elim
end
/-! ### such a call -/
def tCallP (sp : (Addr × Obj) → List V → Hp → VK → Prop) (p : Addr × Obj) (t : TA) (σ : L2.St) (H : Hp) (Q : VK) : Prop := t σ H fun vs H1 => sp p vs H1 Q
section
variable {X : Cx} {k : Nat} {f : Addr} {fd : FuncData} {ps : List Str} {sp : (Addr × Obj) → List V → Hp → VK → Prop} {x : Str} {q pos : Pos} {e : Expr} {es : List Expr} {t : TA} {p : Addr × Obj}
theorem pe_callP (F : FnP X.prog X.w X.K X.mg X.base k f fd ps sp) (hr : RoomH k X.A) (hot : Hot1 X.A p) (hp : p ∈ X.pn) (hg : Gl X x) (hm : X.mg x = some (.ref f)) (hk : PySem.W.keepIn X.K (.ref f) = true) (hb : Binds X.K fd ps [])
    (ha : PA X (e :: es) t) (hdb : (x == ("__debug__" : Str)) = false := by decide) (he : starEach (e :: es) X.env = (false, eval e X.env) :: starEach es X.env := by rfl)
    (hpl : (backTo pos (starEach es X.env)).any (·.1) = false := by rfl) : PE X (.Call (.Name x q) (e :: es) [] pos) (tCallP sp p t) := by
  constructor
  intro pins s σ H Q I h
  refine wpAny_Call_Name_kw (ld_glob I hg hm ?_ hdb)
  refine PySem.W.callWith_K (h₀ := X.base) I.ok.mod.kin hk (thn (ha.run pos pins s σ H _ I h) fun us s1 res => ?_) he hpl
  obtain ⟨vs, H1, I1, r, q1⟩ := res
  refine ⟨I1.kIn, ?_⟩
  have hl : us.length = ps.length := by rw [← r.length]; exact F.len _ _ _ _ q1
  have b := hb s1 us I1.kIn (by rw [List.append_nil]; exact hl)
  rw [List.append_nil] at b
  have pin := I1.pin p (List.mem_append_left _ hp)
  have hpin : PinOk X.stack H1 s1 p := by
    refine ⟨pin.1, pin.2.1, fun hm => ?_, pin.2.2.2.2⟩
    rcases List.mem_cons.mp (I1.stkSub p.1 hm) with z | z
    · exact pin.2.2.1 z
    · exact pin.2.2.2.1 z
  refine wpAny_call (codeAny_mono (F.run X.A X.stack s1 H1 us vs Q p hr hot hpin I1.env0 b r q1) fun rr s' hq => ?_)
  cases rr with
  | error e => exact hq.elim
  | ok fl =>
    cases fl with
    | ret u => exact I1.after hq
    | next => exact hq.elim
    | brk => exact hq.elim
    | cont => exact hq.elim
end
end Vf

set_option Elab.async false
set_option linter.all false
set_option maxRecDepth 100000
set_option maxHeartbeats 4000000
namespace Vf
open PySem PySem.Spec PyProof.Rows L2 L2H TL
/-! ### list.count over bools -/
def bEq (k : Bool) : Value → Bool
  | .bool b => b == k
  | _ => false
def rCntB (K : PySem.W.Frag) : V → List V → Hp → VK → Prop := fun x xs H Q => ∃ (p : Addr) (bs : List Bool) (k : Bool), x = .ref p ∧ xs = [.bl k] ∧ SqL K H p (bs.map V.bl) ∧ Q (.int (bs.count k : Nat)) H
theorem bools_of : ∀ {bs : List Bool} {its : List Value}, Vals (bs.map V.bl) its → its = bs.map Value.bool
  | [], _, r => by cases r; rfl
  | b :: bs, _, r => by
    cases r with
    | cons a t =>
      have e : _ = Value.bool b := a
      rw [e, bools_of t]; rfl
theorem count_bools (k : Bool) : ∀ bs : List Bool, (bs.map Value.bool).countP (bEq k) = bs.count k
  | [] => rfl
  | b :: bs => by
    rw [List.map_cons, List.countP_cons, List.count_cons, count_bools k bs]
    rfl
section
variable {X : Cx}
theorem mt_bcount : MtR X "list.count" (rCntB X.K) := by
  intro pins s σ H x xs v us Q I rx rxs h
  obtain ⟨p, bs, k, rfl, rfl, hs, q⟩ := h
  cases rx
  obtain ⟨u, rfl, ru⟩ := rxs.one
  have eu : u = Value.bool k := ru
  subst eu
  obtain ⟨its, rv, ⟨⟨cls, dd, data, sl⟩, n, ho, hc, hdn, hd⟩, hlen⟩ := I.list hs
  simp only at hc hd
  subst hc hd
  have ei := bools_of rv
  subst ei
  refine call_meets PySem.F.slot_list_count ⟨_, ho, rfl⟩ PySem.F.entry_list_count (PySem.F.args_list_count_2 _ _)
    (SeqAt.list_countAt p (bs.map Value.bool).toArray n dd sl (.bool k) (bEq k)) ⟨ho, fun y hy => ?_, ?_⟩
  · obtain ⟨b, _, rfl⟩ := List.mem_map.mp (by simpa only [List.mem_toArray] using hy)
    exact PySem.SeqAt.EqAt.bool_bool b k
  · have ec : (bs.map Value.bool).toArray.toList.countP (bEq k) = bs.count k := count_bools k bs
    refine ⟨.int (bs.count k : Nat), H, I.tok _, ⟨s.toks, ?_⟩, q⟩
    rw [ec]
end
/-! ### an own error made where none is handled, its context noted -/
theorem pmkN_oex {X : Cx} {x : Str} {e : Expr} {es : List Expr} {ta : TA} {p pos : Pos} {C fI : Addr} {k : Nat} {fd : FuncData} {ps : List Str} {sp : Sp} (T : OexC X.K C) (iC : PySem.W.findIn X.K (.ref C) "__init__" = some (some (.ref fI))) (tI : PySem.W.typeIn X.K (.ref fI) = some (.type "function"))
    (F1 : FnOk X.prog X.w X.K X.mg X.base CX0 k fI fd ps sp) (hr : Room (k + 1) X.A) (hb : Binds X.K fd ps []) (hg : Gl X x) (hm : X.mg x = some (.ref C)) (ha : PA X (e :: es) ta)
    (hdb : (x == ("__debug__" : Str)) = false := by decide) (he : starEach (e :: es) X.env = (false, eval e X.env) :: starEach es X.env := by rfl) (hpl : (backTo pos (starEach es X.env)).any (·.1) = false := by rfl) :
    L2N.PMk X (.Call (.Name x p) (e :: es) [] pos) (tMkO C sp [] ta) := by
  intro pins s σ H Q I h
  obtain ⟨nm, q, N, bs, bm, sn, sub, ab, col, dd, k0, k1, k2, k3, k5, hC, hbm⟩ := T.cls
  refine wpAny_Call_Name_kw (ld_glob I hg hm ?_ hdb)
  refine PySem.W.callWith_K (h₀ := X.base) I.ok.mod.kin T.kC (thn (ha.run pos pins s σ H _ I h) fun us s1 ⟨vs, H1, I1, r1, hz, q1⟩ => ⟨I1.kIn, ?_⟩) he hpl
  show wpAny _ _ (call (.ref C) us) _ _ _
  obtain ⟨hp, g, dr, tk, os⟩ := s1
  have lt1 : hp.objs.size ≤ hp.objs.size + 1 := Nat.le_succ _
  have nx : H1 (hp.objs.size + 1) = none := I1.hok.fresh lt1
  have hq := q1 (hp.objs.size + 1) nx
  rw [List.append_nil] at hq
  have k2 : ∀ b o, hp.get? b = some o → ((hp.push (PySem.W.kdv_tup us)).push (PySem.HandSPX.excO C hp.objs.size)).get? b = some o := fun b o e => Heap.get?_push_of_some _ (Heap.get?_push_of_some _ e)
  have at1 : ((hp.push (PySem.W.kdv_tup us)).push (PySem.HandSPX.excO C hp.objs.size)).get? (hp.objs.size + 1) = some (PySem.HandSPX.excO C hp.objs.size) := by heap_get
  have J := I1.laid (t' := tk) (a := hp.objs.size + 1) (o := exo (hp.objs.size + 1) C none) (h' := (hp.push (PySem.W.kdv_tup us)).push (PySem.HandSPX.excO C hp.objs.size)) k2 lt1 (exo_ok at1)
  have rr : Vals (V.ref (hp.objs.size + 1) :: vs) (Value.ref (hp.objs.size + 1) :: us) := .cons rfl r1
  have len1 : (Value.ref (hp.objs.size + 1) :: us ++ []).length = ps.length := by
    rw [List.append_nil, ← rr.length]
    exact F1.len _ _ _ _ hq
  have short : us.length ≤ sizeLine := by rw [← Paired.length r1, sizeLine_eq]; omega
  have bb := hb _ (Value.ref (hp.objs.size + 1) :: us) J.kIn len1
  rw [List.append_nil] at bb
  refine wpAny_call (PySem.HandSPX.call_own F.excBase_ValueError (fun Y => PySem.HandSPX.refsVE_contains Y bm hbm) (I1.kIn _ _ hC) (PySem.W.looks_findIn I1.kIn iC) (fun self => PySem.W.bind_fn I1.kIn self tI) short
    (codeAny_mono (F1.run _ X.stack _ _ ⟨Value.ref (hp.objs.size + 1) :: us, []⟩ (Value.ref (hp.objs.size + 1) :: us) _ _ (fun _ _ _ => False) (hr.make C us []) (J.env0.make C us []) bb rr hq) fun r s' hq' => ?_))
  cases r with
  | error er => exact hq'.elim
  | ok fl =>
    cases fl with
    | ret u =>
      obtain ⟨v, H2, os2, bare2, un2, hok2, rv, ev, d, fs, ea, ed, hd1, q2⟩ := hq'
      subst ev
      obtain ⟨h2, g2, d2, t2, os'⟩ := s'
      obtain ⟨t0, G, J2, kG, ge, hoe, na⟩ := mk_end0 (d2 := d2) (t2 := t2) I1 lt1 k2 un2 hok2 os2 bare2 ea ed hd1
      exact ⟨rv, hp.objs.size + 1, _, _, ⟨G, g2, d2, t2, os'⟩, _, .ref C, some d, rfl, J2, kG, ge, hoe, ⟨rfl, rfl, fun vs hv => by cases hv; rfl⟩, rfl, rfl, na, rfl, bare2, raises_own T.exC T.tyC, q2⟩
    | next => exact hq'.elim
    | brk => exact hq'.elim
    | cont => exact hq'.elim
/-- a def that may raise, its exceptions' contexts noted -/
theorem okN {P : Program} {w : World} {K : PySem.W.Frag} {mg : Str → Option Value} {base : Heap} {x qual : Str} {st : Stmt} {f : Addr} {fd : FuncData} {N ps : List Str} {k : Nat} {sp : Sp} (F : L2.Fun K x qual st f fd) (S : FnScope N ps (defScope st)) (len : ∀ vs H Q E, sp vs H Q E → vs.length = ps.length)
    (body : ∀ (cdv : Value) (A : Around) (outer : List Env) (s : Shared) (H : Hp) (vs : List V) (Q : VK) (E : XK), Room k (A.deeper (envOfC qual (defScope st) s.heap.objs.size f cdv)) → sp vs H Q E →
      ∃ t, PSs (cxOf (L2N.CX P w) P w K mg base N qual (defScope st) f cdv A outer s H E) (defBody st) t ∧ t { nx := fun _ H' => Q .non H', rt := Q } (L2.start N vs) H) : FnOk P w K mg base (L2N.CX P w) (k + 1) f fd ps sp := by
  obtain ⟨oc, od, kV, doc, pm, an, cdv, ct, osl, rfl, lk, hcd⟩ := F.ex
  exact fn_of lk hcd S len fun A outer s H vs Q E hr hsp => body cdv A outer s H vs Q E hr hsp
/-! ### C(v), __init__ keeps its one field -/
def spInit1 (C : Addr) (f : Str) : Sp := fun vs H Q _ => ∃ (a : Addr) (y : V), vs = [.ref a, y] ∧ H a = some (exo a C none) ∧
  ∀ dx, H dx = none → dx ≠ a → Q .non (upd (upd H dx (exd dx [(f, y)])) a (exo a C (some dx)))
section
variable {P : Program} {w : World} {K : PySem.W.Frag} {mg : Str → Option Value} {base : Heap}
theorem ok_TooWide (T : Txt K mg) : FnOk P w K mg base CX0 1 T.i_TooWide T.d_TooWide ["self", "part"] (spInit1 T.c_TooWide "part") := by
  refine T.E_TooWide.F.ok sc_TooWide_init (fun vs H Q E h => ?_) (fun cdv A outer s H vs Q E hr h => ?_)
  · obtain ⟨a, y, rfl, _⟩ := h
    rfl
  · obtain ⟨a, y, rfl, ea, q⟩ := h
    refine ⟨_, pss_one (ps_ost (pv 0) (pv 1)), ?_⟩
    exact ⟨_, rfl, _, rfl, a, T.c_TooWide, rfl, T.E_TooWide.O, T.E_TooWide.no "part" (by simp), .inl ⟨ea, fun dx nd ne => q dx nd ne⟩⟩
end
/-- what the raise of C(y) leaves -/
theorem raise1 {C : Addr} {f : Str} {y : V} {H : Hp} {E : XK} (q : ∀ H' d, Same H H' → H' d = some (.xd [(f, y)]) → E (.ref C) (some d) H') :
    [y].length ≤ 1000 ∧ ∀ a, H a = none → spInit1 C f (.ref a :: ([y] ++ [])) (upd H a (exo a C none))
      (fun v H2 => v = .non ∧ ∃ (d : Addr) (fs : List (Str × V)), H2 a = some (exo a C (some d)) ∧ H2 d = some (exd d fs) ∧ H d = none ∧ E (.ref C) (some d) (upd (del H2 a) d (.xd fs))) (fun _ _ _ => False) := by
  refine ⟨by show 1 ≤ 1000; decide, fun a na => ⟨a, y, rfl, upd_same, fun dx nd ne => ⟨rfl, dx, _, upd_same, by rw [upd_ne ne]; exact upd_same, by rw [upd_ne ne] at nd; exact nd, q _ _ (fun b o e => ?_) upd_same⟩⟩⟩
  have nd2 : H dx = none := by rw [upd_ne ne] at nd; exact nd
  have hb1 : b ≠ a := ne_of_none e na
  have hb2 : b ≠ dx := ne_of_none e nd2
  rw [upd_ne hb2, del_ne hb1, upd_ne hb1, upd_ne hb2, upd_ne hb1]
  exact e
end Vf

set_option Elab.async false
set_option linter.all false
set_option maxRecDepth 100000
set_option maxHeartbeats 4000000
namespace Vf
open PySem PySem.Spec PyProof.Rows L2 TL LamX
/-- a total and its way, or none -/
def LwT (H : Hp) (v : V) (us : List V) (f g : Nat → Option Nat) (m : Nat) : Prop := match f m with
  | none => v = .non
  | some y => ∃ B p, v = .ref B ∧ H B = some (.tup [nV y, .ref p]) ∧ H p = some (.tup ((Rw g m).reverse.map fun u => us.getD u .non))
def ttLwT (tl : V → Hp → VK → Prop) (v0 : V) (H : Hp) (Q : VK) : Prop := ∃ (a : Addr) (us : List V) (ps : List (Nat × Nat)) (as : List Arc), v0 = .ref a ∧ H a = some (.tup us) ∧ LV (FgV H) us ps ∧ Inj ps ∧ NetT ps.length as ∧
  (∀ (i : Nat) (x : V) (H' : Hp) (Q' : VK), i + 1 < ps.length → us[i]? = some x → Same H H' → (∀ H'' b vs, Same H' H'' → H' b = none → H'' b = some (.lst vs) → LV (CoV H'' ps) vs (adjT as i) → Q' (.ref b) H'') → tl x H' Q') ∧
  ∀ (H' : Hp) (v : V) (f g : Nat → Option Nat), Same H H' → Bd (· ∈ as) f g → LwT H' v us f g (ps.length - 1) → Q v H'
theorem at_lastT {xs : List V} {x : V} {n : Nat} (hl : xs.length = n + 1) (e : xs[n]? = some x) : atI xs (-1) = some x := by
  have e2 : xs = xs.take n ++ [x] := by
    have h3 := List.take_append_drop n xs
    have h4 : xs.drop n = [x] := by
      rw [List.drop_eq_getElem_cons (by omega)]
      have h5 := List.getElem?_eq_some_iff.mp e
      rw [h5.2, List.drop_eq_nil_of_le (by omega)]
    rw [h4] at h3
    exact h3.symm
  rw [e2]
  exact atI_last _ _
section
variable {P : Program} {w : World} {K : PySem.W.Frag} {mg : Str → Option Value} {base : Heap}
theorem gives_lwT (T : Txt K mg) (kl : Nat) (q : Str) (cdv : Value) : GivesS P w K mg base kl 1 ["places", "leads", "bounds", "tails", "way"] "least_way_along" (defScope s_least_way_along) T.a_least_way_along cdv (defBody s_least_way_along) q ttLwT := by
  intro A outer s H f c' v0 Q tl hr Lv hc htt
  obtain ⟨oc2, od2, kV2, doc2, pm2, an2, cdv2, ct2, osl2, efd2, lk2, hcd2⟩ := T.D_bounds_and_tails.F.ex
  have hb2 := T.D_bounds_and_tails.B
  rw [efd2] at lk2 hb2
  obtain ⟨a, us, ps, as, rfl, ea, lv, inj, ok, hl, q⟩ := htt
  have hn := ok.1
  have n500 := ok.2.1
  have lvn := lv.1
  have up : ∀ a ∈ as, a.1 < a.2.1 := fun a h => (ok.2.2.1 a h).1
  have eg : ∀ u, u < ps.length → ∃ p b, ps[u]? = some p ∧ us.getD u .non = .ref b ∧ H b = some (.tup [nV p.1, nV p.2]) := fun u hu => by
    obtain ⟨x, ex, b, rfl, eb⟩ := lv.2 u _ (List.getElem?_eq_getElem hu)
    exact ⟨_, b, List.getElem?_eq_getElem hu, by rw [List.getD_eq_getElem?_getD, ex]; rfl, eb⟩
  obtain ⟨pl, bl, epl, evl, ebl⟩ := eg (ps.length - 1) (by omega)
  refine ⟨_, (pss_cons (ps_asg (pe_passS (i := 1) (k := kl) (j := 0) (c' := c') (TT := ttBtT) Lv (hr.mono (by omega)) (by rfl) T.D_bounds_and_tails.G T.D_bounds_and_tails.F.kp lk2 hcd2 hb2 sc_bounds_and_tails (gives_btT T kl 0 _ _) (pv 0) rfl (Or.inl rfl)) (pg_tup (by rfl) (pgs_cons (pg_name (i := 2) sc_least_way_along.nd rfl (.inl rfl)) (pgs_cons (pg_name (i := 3) sc_least_way_along.nd rfl (.inl rfl)) pgs_nil))))
      (pss_cons (ps_if (pt_cmp (pc_dnotin (hu1 hr) (pe_ix ix_tup (pv 0) (pe_un un_neg pe_int) (fun _ _ => rfl)) (pv 2))) (pss_one (ps_ret pe_non)) pss_nil)
      (pss_cons (ps_set (i := 4) sc_least_way_along.nd rfl (.inl rfl) (pe_lst (pa_cons (pe_ix ix_tup (pv 0) (pe_un un_neg pe_int) (fun _ _ => rfl)) pa_nil)))
      (pss_cons (ps_while PassesOwn.never (pt_cmp (pc_din (hu1 hr) (pe_ix ix_list (pv 4) (pe_un un_neg pe_int) (fun _ _ => rfl)) (pv 3))) (pss_one (ps_expr (pe_bm PySem.F.plainAttrs_list PySem.F.slot_list_append PySem.F.type_list_append mt_append (pv 4) (pa_cons (pe_dget (hu1 hr) (pv 3) (pe_ix ix_list (pv 4) (pe_un un_neg pe_int) (fun _ _ => rfl)) (fun _ _ => rfl)) pa_nil)))))
      (pss_one (ps_ret (pe_tup (pa_cons (pe_dget (hu1 hr) (pv 2) (pe_ix ix_tup (pv 0) (pe_un un_neg pe_int) (fun _ _ => rfl)) (fun _ _ => rfl)) (pa_cons (pe_callTy call_tuple_of (by rfl) T.n_tuple (by decide +kernel) (pa_cons (pe_revL (pv 4)) pa_nil)) pa_nil))))))))), ?_⟩
  refine ⟨_, rfl, rfl, hc, a, us, ps, as, rfl, ea, lv, inj, ok, hl, fun H1 B D1 D2 f1 g1 N k1 eB b1 t1 bd => ?_⟩
  refine ⟨B, _, rfl, SqT.of eB, rfl, _, _, rfl, _, _, rfl, rfl, ?_⟩
  have la : us.length = (ps.length - 1) + 1 := by omega
  have ga : atI us (-1) = some (.ref bl) := at_lastT la (by
    rw [List.getD_eq_getElem?_getD, List.getElem?_eq_getElem (by omega)] at evl
    rw [List.getElem?_eq_getElem (by omega)]
    exact congrArg some evl)
  have ea1 := k1 _ _ ea
  have gb := b1.get epl (k1 _ _ ebl)
  have dn := bd.dn up
  refine ⟨_, rfl, 1, rfl, a, _, -1, _, rfl, rfl, SqT.of ea1, ga, _, rfl, D1, _, rfl, gb, ?_⟩
  cases hf : f1 (ps.length - 1) with
  | none => exact ⟨true, rfl, q H1 .non f1 g1 k1 bd (by unfold LwT; rw [hf])⟩
  | some y =>
    refine ⟨false, rfl, ?_⟩
    refine ⟨_, rfl, 1, rfl, a, _, -1, _, rfl, rfl, SqT.of ea1, ga, by show 1 ≤ sizeLine; decide, fun W nW => ?_⟩
    have k2 := same_upd (o := .lst [V.ref bl]) k1 nW
    have nWH := Same.free k1 nW
    have eW : upd H1 W (.lst [V.ref bl]) W = some (.lst ((([] : List Nat) ++ [ps.length - 1]).map fun u => us.getD u .non)) := by rw [upd_same, ← evl]; rfl
    have nD1 : D1 ≠ W := by
      obtain ⟨kvs, h1, _⟩ := b1
      exact ne_of_none h1 nW
    have nD2 : D2 ≠ W := by
      obtain ⟨kvs, h1, _⟩ := t1
      exact ne_of_none h1 nW
    have b2 : BdT (upd H1 W (.lst [V.ref bl])) D1 N ps nV f1 := b1.keep fun o e => by rw [upd_ne nD1]; exact e
    have t2 : BdT (upd H1 W (.lst [V.ref bl])) D2 N ps (fun u => us.getD u .non) g1 := t1.keep fun o e => by rw [upd_ne nD2]; exact e
    generalize upd H1 W (.lst [V.ref bl]) = H2 at k2 eW b2 t2
    refine ⟨fun m σ H' => ∃ (pre : List Nat) (u : Nat), m = u ∧ σ = [some (.ref a), some (.ref f), some (.ref D1), some (.ref D2), some (.ref W)] ∧ Same H H' ∧ BdT H' D1 N ps nV f1 ∧ BdT H' D2 N ps (fun u => us.getD u .non) g1 ∧ H' W = some (.lst ((pre ++ [u]).map fun u => us.getD u .non)) ∧ Rw g1 (ps.length - 1) = pre ++ Rw g1 u ∧ pre.length + u ≤ ps.length ∧ u < ps.length, ⟨_, [], ps.length - 1, rfl, rfl, k2, b2, t2, eW, rfl, by show 0 + (ps.length - 1) ≤ ps.length; omega, by omega⟩, fun m σ H3 hW => ?_⟩
    obtain ⟨pre, u, rfl, rfl, k3, b3, t3, eW3, hR, hlen, hm⟩ := hW
    obtain ⟨pm, bm, epm, evm, ebm⟩ := eg m hm
    have gw : atI ((pre ++ [m]).map fun u => us.getD u .non) (-1) = some (.ref bm) := by rw [List.map_append, ← evm]; exact atI_last _ _
    have gt := t3.get epm (k3 _ _ ebm)
    refine ⟨_, rfl, 1, rfl, W, _, -1, _, rfl, rfl, SqL.of eW3, gw, _, rfl, D2, _, rfl, gt, ?_⟩
    cases hg : g1 m with
    | none =>
      refine ⟨false, rfl, ?_⟩
      rw [Rw_none hg] at hR
      have gb3 := b3.get epl (k3 _ _ ebl)
      rw [hf] at gb3
      refine ⟨_, rfl, _, rfl, 1, rfl, a, _, -1, _, rfl, rfl, SqT.of (k3 _ _ ea), ga, D1, _, rfl, gb3, ?_⟩
      refine ⟨_, rfl, W, _, rfl, SqL.of eW3, fun R nR => ?_⟩
      have k4 := same_upd (o := .lst ((pre ++ [m]).map fun u => us.getD u .non).reverse) k3 nR
      have eR : upd H3 R (.lst ((pre ++ [m]).map fun u => us.getD u .non).reverse) R = some (.lst ((Rw g1 (ps.length - 1)).reverse.map fun u => us.getD u .non)) := by rw [upd_same, hR, List.map_reverse]
      generalize upd H3 R (.lst ((pre ++ [m]).map fun u => us.getD u .non).reverse) = H4 at k4 eR
      refine ⟨R, _, rfl, .inl ⟨SqL.of eR, fun p np => ?_⟩⟩
      have k5 := same_upd (o := .tup ((Rw g1 (ps.length - 1)).reverse.map fun u => us.getD u .non)) k4 np
      have ep : upd H4 p (.tup ((Rw g1 (ps.length - 1)).reverse.map fun u => us.getD u .non)) p = some (.tup ((Rw g1 (ps.length - 1)).reverse.map fun u => us.getD u .non)) := upd_same
      generalize upd H4 p (.tup ((Rw g1 (ps.length - 1)).reverse.map fun u => us.getD u .non)) = H5 at k5 ep
      refine ⟨by show 2 ≤ sizeLine; decide, fun C nC => ?_⟩
      refine q _ (.ref C) f1 g1 (same_upd k5 nC) bd ?_
      unfold LwT
      rw [hf]
      exact ⟨C, p, rfl, upd_same, by rw [upd_ne (ne_of_none ep nC)]; exact ep⟩
    | some u =>
      rw [hg] at gt
      have hu := dn m u hg
      refine ⟨true, rfl, ?_⟩
      refine ⟨fun σ H' => ∃ (pre : List Nat) (u : Nat), u < m ∧ σ = [some (.ref a), some (.ref f), some (.ref D1), some (.ref D2), some (.ref W)] ∧ Same H H' ∧ BdT H' D1 N ps nV f1 ∧ BdT H' D2 N ps (fun u => us.getD u .non) g1 ∧ H' W = some (.lst ((pre ++ [u]).map fun u => us.getD u .non)) ∧ Rw g1 (ps.length - 1) = pre ++ Rw g1 u ∧ pre.length + u ≤ ps.length ∧ u < ps.length, fun σ' H' hN => ?_, ?_⟩
      · obtain ⟨pre', u', l1, r⟩ := hN
        exact ⟨u', l1, pre', u', rfl, r⟩
      refine ⟨.ref W, rfl, .inl ⟨rfl, _, .inl (.inl eW3)⟩, _, rfl, _, rfl, 1, rfl, W, _, -1, _, rfl, rfl, SqL.of eW3, gw, D2, _, rfl, gt, ?_⟩
      refine ⟨W, _, _, rfl, rfl, eW3, by rw [List.length_map, List.length_append]; show pre.length + 1 < _; exact szN (by omega), ?_⟩
      refine ⟨pre ++ [m], u, hu, rfl, same_mut k3 nWH, b3.keep fun o e => by rw [upd_ne nD1]; exact e, t3.keep fun o e => by rw [upd_ne nD2]; exact e, ?_, ?_, by rw [List.length_append]; show pre.length + 1 + u ≤ ps.length; omega, by omega⟩
      · rw [upd_same, List.map_append (l₁ := pre ++ [m])]; rfl
      · rw [hR, Rw_some dn hg, List.append_assoc]; rfl
end
end Vf

set_option Elab.async false
set_option linter.all false
set_option maxRecDepth 100000
set_option maxHeartbeats 4000000
namespace Vf
open PySem PySem.Spec PyProof.Rows L2 TL LamX
abbrev lamQ : Str := (envOfC "least_lines" (defScope s_least_lines) 0 0 .none).qual ++ "<lambda>"
def atQ (S : Sty) (Z : List (List Nat)) (j : Nat) : Nat × Nat := (posL S Z).getD j (0, 0)
/-- the places of a way -/
def WayV (S : Sty) (Z : List (List Nat)) (H : Hp) (p : Addr) (ns : List Nat) : Prop := ∃ vs, H p = some (.tup vs) ∧ LV (FgV H) vs (ns.map (atQ S Z))
theorem WayV.kt {S : Sty} {Z : List (List Nat)} {H H' : Hp} {p : Addr} {ns : List Nat} (h : WayV S Z H p ns) (k : ∀ a xs, H a = some (.tup xs) → H' a = some (.tup xs)) : WayV S Z H' p ns := by
  obtain ⟨vs, e, l⟩ := h
  exact ⟨vs, k _ _ e, l.mono fun _ _ z => z.kt k⟩
theorem Rw_in {f g : Nat → Option Nat} {as : List Arc} (B : Bd (· ∈ as) f g) (up : ∀ a ∈ as, a.1 < a.2.1) : ∀ n v, v ≤ n → ∀ j ∈ Rw g v, j ≤ v
  | 0, v, h, j, hj => by
    have : v = 0 := by omega
    subst this
    rw [Rw_none B.z.2] at hj
    exact Nat.le_of_eq (List.mem_singleton.mp hj)
  | n + 1, v, h, j, hj => by
    cases e : g v with
    | none =>
      rw [Rw_none e] at hj
      exact Nat.le_of_eq (List.mem_singleton.mp hj)
    | some u =>
      have hu := B.dn up v u e
      rw [Rw_some (B.dn up) e] at hj
      rcases List.mem_cons.mp hj with hj | hj
      · omega
      · have := Rw_in B up n u (by omega) j hj
        omega
section
variable {P : Program} {w : World} {K : PySem.W.Frag} {mg : Str → Option Value} {base : Heap}
def spLeast (Pt tw : Addr) : Sp := fun vs H Q E => ∃ (sa : Addr) (us : List V) (S : Sty) (Z : List (List Nat)) (M L : Nat) (f g : Nat → Option Nat), vs = [nV M, nV L, .ref sa] ∧ H sa = some (.tup us) ∧ LV (ShV S H) us Z ∧ WdsOk S Z ∧ (posL S Z).length ≤ 91 ∧ M ≤ 1000000 ∧ Tabs [(Pt, lamQ)] H ∧ Bd (· ∈ netQ M L S Z) f g ∧
  (∀ y, f ((posL S Z).length - 1) = some y → ∀ H' p, ExtN H H' → Tabs [(Pt, lamQ)] H' → WayV S Z H' p (Rw g ((posL S Z).length - 1)).reverse → Q (.ref p) H') ∧
  (f ((posL S Z).length - 1) = none → ∀ H' d, ExtN H H' → Tabs [(Pt, lamQ)] H' → H' d = some (.xd [("part", .str "word")]) → E (.ref tw) (some d) H')
theorem ok_least (T : Txt K mg) {c Pt : Addr} (hcode : T.d_least_lines.code = .ref c) (TB : TabB base mg c Pt) : FnOk P w K mg base (L2N.CX P w) 7 T.a_least_lines T.d_least_lines ["measure", "ladder", "shapes"] (spLeast Pt T.c_TooWide) := by
  have G_positions : FnOk P w K mg base CX0 1 T.a_positions T.d_positions ["shapes"] spPositions := ok_positions T
  have G_lines_from : FnOk P w K mg base CX0 3 T.a_lines_from T.d_lines_from ["measure", "ladder", "shapes", "begin"] spLines := ok_lines T
  obtain ⟨oc, od, kV, doc, pm, an, cdv, ct, osl, efd, lk, hcd⟩ := T.D_least_lines.F.ex
  obtain ⟨oc2, od2, kV2, doc2, pm2, an2, cdv2, ct2, osl2, efd2, lk2, hcd2⟩ := T.D_least_way_along.F.ex
  have hb2 := T.D_least_way_along.B
  rw [efd2] at lk2 hb2
  rw [efd] at lk hcode
  rw [efd]
  have hcdv : cdv = .ref c := hcode
  subst hcdv
  refine fn_of lk hcd sc_least_lines (fun vs H Q E h => ?_) (fun A outer s H vs Q E hr h => ?_)
  · obtain ⟨_, _, _, _, _, _, _, _, rfl, _⟩ := h
    rfl
  · obtain ⟨sa, us, S, Z, M, L, f, g, rfl, es, lv, ok, l91, hM, hT, bd, qS, qE⟩ := h
    suffices h : ∃ t, PSs (cxOf (L2N.CX P w) P w K mg base ["measure", "ladder", "shapes", "least", "begin"] "least_lines" (defScope s_least_lines) T.a_least_lines (.ref c) A outer s H E) (defBody s_least_lines) t ∧ t { nx := fun _ H' => Q .non H', rt := Q } (L2.start ["measure", "ladder", "shapes", "least", "begin"] [nV M, nV L, .ref sa]) H by
      exact h
    refine ⟨_, (pss_cons (ps_set (i := 3) sc_least_lines.nd rfl (.inl rfl) (pe_lamcallS (k := 3) (j := 1) (ip := 4) (T := [(Pt, lamQ)]) (TT := ttLwT) (by rfl) T.D_least_way_along.G T.D_least_way_along.F.kp lk2 hcd2 hb2 sc_least_way_along (gives_lwT T 3 _ _) (pe_call G_positions (hr.mono (by decide)) (by rfl) T.D_positions.G T.D_positions.F.kp T.D_positions.B .nil pass0 (pa_cons (pv 2) pa_nil)) TB rfl (List.mem_singleton.mpr rfl) (fun p hp _ => by rw [List.mem_singleton.mp hp]; rfl) (hr.mono (by decide)) (lamP_by (sc := defScope s_least_lines) (N := ["measure", "ladder", "shapes", "least", "begin"]) (p := "begin") (by decide +kernel)) rfl (fun _ _ _ _ _ _ => rfl) (fun A outer s H f c' hr2 => pe_call G_lines_from hr2 (by rfl) T.D_lines_from.G T.D_lines_from.F.kp T.D_lines_from.B .nil pass0 (pa_cons (pv 0) (pa_cons (pv 1) (pa_cons (pv 2) (pa_cons (pv 4) pa_nil)))))))
      (pss_cons (ps_if (pt_cmpR op_isN (pv 3) pe_non (nomark _)) (pss_one (L2N.ps_raise rfl (L2N.takes_of rfl rfl rfl rfl) (pmkN_oex T.E_TooWide.O T.E_TooWide.I T.E_TooWide.TI (ok_TooWide T) (hr.mono (by decide)) T.E_TooWide.B (by rfl) T.E_TooWide.G (pa_cons pe_str pa_nil)))) pss_nil)
      (pss_one (ps_ret (pe_ix ix_tup (pv 3) pe_int (fun _ _ => rfl)))))), ?_⟩
    refine ⟨_, rfl, sa, us, S, Z, rfl, es, lv, ok, fun H1 pa ps k1 n1 e1 lp => ?_⟩
    have lpn := lp.1
    have up : ∀ a ∈ netQ M L S Z, a.1 < a.2.1 := fun a h => (netQ_up a h).1
    refine ⟨hT.ext k1, fun H2 x2 T2 => ?_⟩
    have x12 := (ExtN.of k1).trans x2
    have tx : ∀ {H H' : Hp}, ExtN H H' → ∀ a xs, H a = some (.tup xs) → H' a = some (.tup xs) := fun e a xs h => e _ _ h (fun _ z => by cases z)
    have e2 := tx x2 _ _ e1
    have lp2 : LV (FgV H2) ps (posL S Z) := lp.mono fun _ _ z => z.kt (tx x2)
    refine ⟨pa, ps, posL S Z, netQ M L S Z, rfl, e2, lp2, pos_inj S Z, netQ_T l91, fun i x H3 Q' hi hx k3 hq => ?_, fun H3 v f1 g1 k3 bd1 lw => ?_⟩
    · obtain ⟨r, er, b, rfl, eb⟩ := lp2.at hx
      have ⟨h1, h2⟩ := pos_body er hi
      have es3 := k3 _ _ (tx x12 _ _ es)
      refine ⟨_, rfl, _, rfl, _, rfl, _, rfl, sa, b, us, S, Z, M, L, r.1, r.2, rfl, es3, lv.mono fun _ _ z => ShV.kt z fun _ _ e => k3 _ _ (tx x12 _ _ e), ok, hM, k3 _ _ eb, h1, h2, fun H4 l zs k4 nl el lz => ?_⟩
      refine hq H4 l zs k4 nl el ?_
      rw [netQ_adj hi]
      unfold rowQ
      rw [getD_of er, List.map_map]
      refine ⟨by rw [List.length_map]; exact lz.1, fun t q hq => ?_⟩
      rw [List.getElem?_map] at hq
      cases ey : (linesF M L S Z r.1 r.2)[t]? with
      | none => rw [ey] at hq; cases hq
      | some y =>
        rw [ey] at hq
        have hq : (idxQ S Z y.1, y.2) = q := Option.some.inj hq
        subst hq
        obtain ⟨v, ev, b1, b2, rfl, m1, m2⟩ := lz.2 t y ey
        have hy : y ∈ linesF M L S Z r.1 r.2 := List.mem_of_getElem? ey
        unfold linesF at hy
        obtain ⟨y0, hy0, rfl⟩ := List.mem_map.mp hy
        obtain ⟨bi, ebi⟩ := pos_has (after_mem h1 (ends_mem hy0).1)
        have eix : idxQ S Z y0.1 = bi := idxOf_at (pos_inj S Z) ebi
        exact ⟨_, ev, b1, b2, y0.1, rfl, by show (posL S Z)[idxQ S Z y0.1]? = _; rw [eix]; exact ebi, m1, m2⟩
    · obtain ⟨rfl, rfl⟩ := bd_eq bd1 bd up
      have x13 := x12.trans (ExtN.of k3)
      have T3 := T2.ext k3
      have lp3 : LV (FgV H3) ps (posL S Z) := lp2.mono fun _ _ z => z.same k3
      unfold LwT at lw
      cases hf : f1 ((posL S Z).length - 1) with
      | none =>
        rw [hf] at lw
        have lw : v = .non := lw
        subst lw
        refine ⟨_, rfl, rfl, _, rfl, ?_⟩
        exact raise1 fun H' d s2 e => qE hf H' d (x13.trans (ExtN.of s2)) (T3.ext s2) e
      | some y =>
        rw [hf] at lw
        obtain ⟨B, p, rfl, eB, ep⟩ := lw
        refine ⟨_, rfl, rfl, _, rfl, ?_⟩
        refine ⟨_, rfl, B, _, 1, _, rfl, rfl, SqT.of eB, rfl, qS y hf H3 p x13 T3 ⟨_, ep, ?_⟩⟩
        have hin : ∀ j ∈ (Rw g1 ((posL S Z).length - 1)).reverse, j < (posL S Z).length := fun j hj => by
          have := Rw_in bd up ((posL S Z).length - 1) _ (Nat.le_refl _) j (List.mem_reverse.mp hj)
          have := pos_pos (S := S) (Z := Z)
          omega
        generalize (Rw g1 ((posL S Z).length - 1)).reverse = ns at hin
        refine ⟨by rw [List.length_map, List.length_map], fun t r hr => ?_⟩
        rw [List.getElem?_map] at hr
        cases ej : ns[t]? with
        | none => rw [ej] at hr; cases hr
        | some j =>
          rw [ej] at hr
          have hr : atQ S Z j = r := Option.some.inj hr
          subst hr
          have hj := hin j (List.mem_of_getElem? ej)
          have eg : (posL S Z)[j]? = some (posL S Z)[j] := List.getElem?_eq_getElem hj
          obtain ⟨x, ex, h⟩ := lp3.2 j _ eg
          refine ⟨x, by rw [List.getElem?_map, ej]; show some (ps.getD j .non) = _; rw [List.getD_eq_getElem?_getD, ex]; rfl, ?_⟩
          unfold atQ
          rw [getD_of eg]; exact h
end
end Vf

set_option Elab.async false
set_option linter.all false
set_option maxRecDepth 100000
set_option maxHeartbeats 4000000
namespace Vf
open PySem PySem.Spec PyProof.Rows L2 TL
theorem pr_big {S : Sty} (ok : StyOk S) {z : List Nat} {m : Nat} : prA S z m ≤ 999 ∨ True := .inr trivial
section
variable {P : Program} {w : World} {K : PySem.W.Frag} {mg : Str → Option Value} {base : Heap}
def spLC : Sp := fun vs H Q _ => ∃ (sa ba ea : Addr) (us : List V) (S : Sty) (Z : List (List Nat)) (M L i k j m : Nat), vs = [nV M, nV L, .ref sa, .ref ba, .ref ea] ∧ SeqH H sa us ∧ LV (ShV S H) us Z ∧ WdsOk S Z ∧ (∀ z ∈ Z, WdOk z) ∧ H ba = some (.tup [nV i, nV k]) ∧ H ea = some (.tup [nV j, nV m]) ∧ i < Z.length ∧ k ≤ nP S (wz Z i) ∧ ((i = j ∧ k < m ∧ m ≤ nP S (wz Z i)) ∨ (i < j ∧ ((j, m) = (Z.length, 0) ∨ (j < Z.length ∧ m ≤ nP S (wz Z j))))) ∧ M ≤ 1000000 ∧
  ∀ H', Same H H' → Q (oN (if natW S Z i k (j, m) ≤ M then some (costQ M L S Z k (j, m) (natW S Z i k (j, m))) else none)) H'
theorem ok_lc (T : Txt K mg) : FnOk P w K mg base CX0 3 T.a_law_line_cost T.d_law_line_cost ["_law_measure_here", "_law_ladder", "_law_shapes", "_law_start", "_law_end"] spLC := by
  have G_law_natural : FnOk P w K mg base CX0 2 T.a_law_natural T.d_law_natural ["_law_shapes", "_law_start", "_law_end"] spLNat := ok_lnat T
  refine T.D_law_line_cost.F.ok sc_law_line_cost (fun vs H Q E h => ?_) (fun cdv A outer s H vs Q E hr h => ?_)
  · obtain ⟨_, _, _, _, _, _, _, _, _, _, _, _, rfl, _⟩ := h
    rfl
  · obtain ⟨sa, ba, ea, us, S, Z, M, L, i, k, j, m, rfl, es, lv, ok, h16, eb, ee, hi, hk, hjm, hM, q⟩ := h
    have l40 := ok.ln
    have lus := lv.1
    refine ⟨_, (pss_cons (ps_set (i := 5) sc_law_line_cost.nd rfl (.inl rfl) (pe_call G_law_natural (hr.mono (by decide)) (by rfl) T.D_law_natural.G T.D_law_natural.F.kp T.D_law_natural.B .nil pass0 (pa_cons (pv 2) (pa_cons (pv 3) (pa_cons (pv 4) pa_nil)))))
      (pss_cons (ps_if (pt_cmpR op_gt (pv 5) (pv 0) (nomark _)) (pss_one (ps_ret pe_non)) pss_nil)
      (pss_cons (ps_set (i := 6) sc_law_line_cost.nd rfl (.inl rfl) (pe_ifExp (pt_cmpR op_lt (pe_ix ix_tup (pv 4) pe_int (fun _ _ => rfl)) (pe_callB call_len (by rfl) T.n_len PySem.boot_len (pa_cons (pv 2) pa_nil)) (nomark _)) (pe_op op_mul (pe_op op_sub (pv 0) (pv 5)) (pe_op op_sub (pv 0) (pv 5))) pe_int))
      (pss_cons (ps_if (pt_cmpR op_gt (pe_ix ix_tup (pv 4) pe_int (fun _ _ => rfl)) pe_int (nomark _)) (pss_one (ps_set (i := 6) sc_law_line_cost.nd rfl (.inl rfl) (pe_op op_add (pe_op op_add (pv 6) (pe_ix ix_tup (pe_ix ix_tup (pe_ix ix_tup (pe_ix ix_seq (pv 2) (pe_ix ix_tup (pv 4) pe_int (fun _ _ => rfl)) (fun _ _ => rfl)) pe_int (fun _ _ => rfl)) (pe_op op_sub (pe_ix ix_tup (pv 4) pe_int (fun _ _ => rfl)) pe_int) (fun _ _ => rfl)) pe_int (fun _ _ => rfl))) (pe_ifExp (pt_cmpR op_gt (pe_ix ix_tup (pv 3) pe_int (fun _ _ => rfl)) pe_int (nomark _)) (pv 1) pe_int)))) pss_nil)
      (pss_one (ps_ret (pv 6))))))), ?_⟩
    refine ⟨_, rfl, _, rfl, _, rfl, sa, ba, ea, us, S, Z, i, k, j, m, rfl, es, lv, ok, h16, eb, ee, hi, hk, hjm, fun H1 k1 hn => ?_⟩
    have hjl : (j = Z.length ∧ m = 0) ∨ (j < Z.length ∧ m ≤ nP S (wz Z j)) := by
      rcases hjm with ⟨h1, h2, h3⟩ | ⟨_, h | h⟩
      · subst h1; exact .inr ⟨hi, h3⟩
      · exact .inl (Prod.mk.inj h)
      · exact .inr h
    unfold costQ at q
    generalize natW S Z i k (j, m) = n at q hn
    have ee1 := k1 _ _ ee
    have eb1 := k1 _ _ eb
    have es1 := es.same k1
    refine ⟨_, rfl, _, rfl, _, _, rfl, rfl, _, rfl, ?_⟩
    refine ifD (fun c => ?_) (fun c => ?_)
    · have c : (M : Int) < (n : Int) := c
      have := q H1 k1
      rw [if_neg (show ¬ n ≤ M by omega)] at this
      exact this
    · have c : ¬ (M : Int) < (n : Int) := c
      have hle : n ≤ M := by omega
      rw [if_pos hle] at q
      have e0 : ((M : Int) - (n : Int)) * ((M : Int) - (n : Int)) = (((M - n) * (M - n) : Nat) : Int) := by
        rw [Int.natCast_mul]
        congr 1 <;> omega
      refine ⟨_, rfl, ea, _, 0, _, rfl, rfl, SqT.of ee1, rfl, _, rfl, _, us.length, rfl, es1.len, _, _, rfl, rfl, _, rfl, ?_⟩
      refine ifD (fun c2 => ?_) (fun c2 => ?_)
      · have c2 : (j : Int) < (us.length : Int) := c2
        have hj : j < Z.length ∧ m ≤ nP S (wz Z j) := by
          rcases hjl with h | h
          · omega
          · exact h
        rw [if_neg (show ¬ (j, m).1 = Z.length from fun z => by have z : j = Z.length := z; omega)] at q
        refine ⟨_, rfl, _, rfl, _, _, rfl, rfl, _, rfl, _, rfl, _, _, rfl, rfl, _, _, rfl, rfl, .inl (by omega), ?_⟩
        refine ⟨_, rfl, ea, _, 1, _, rfl, rfl, SqT.of ee1, rfl, _, _, rfl, rfl, _, rfl, ?_⟩
        refine ifD (fun c3 => ?_) (fun c3 => ?_)
        · have c3 : (0 : Int) < (m : Int) := c3
          have h0 : 0 < m := by omega
          rw [if_pos (show 0 < (j, m).2 from h0)] at q
          obtain ⟨y, ey, sa2, pa, ws, rfl, e1, e2, pl⟩ := lv.2 j _ (wz_at hj.1)
          obtain ⟨rr, gm⟩ : ∃ rr, (places S (wz Z j))[m - 1]? = some rr := ⟨_, List.getElem?_eq_getElem (by have := hj.2; unfold nP at this; omega)⟩
          obtain ⟨x, ex, b, rfl, ebx⟩ := pl.2 _ _ gm
          have epr : rr.2 = prA S (wz Z j) m := by
            unfold prA
            rw [List.getD_eq_getElem?_getD, gm]; rfl
          rw [show ((j, m) : Nat × Nat).1 = j from rfl, show ((j, m) : Nat × Nat).2 = m from rfl, ← epr] at q
          have em : (m : Int) - 1 = ((m - 1 : Nat) : Int) := by omega
          generalize (M - n) * (M - n) = mm at e0 q
          refine ⟨_, rfl, _, rfl, _, rfl, ea, _, 0, _, rfl, rfl, SqT.of ee1, rfl, es1.rix (atI_nat ey) ?_⟩
          refine ⟨sa2, _, 1, _, rfl, rfl, SqT.of (k1 _ _ e1), rfl, ?_⟩
          refine ⟨_, rfl, ea, _, 1, _, rfl, rfl, SqT.of ee1, rfl, _, _, rfl, rfl, pa, _, _, _, rfl, rfl, SqT.of (k1 _ _ e2), by rw [em]; exact atI_nat ex, ?_⟩
          refine ⟨b, _, 2, _, rfl, rfl, SqT.of (k1 _ _ ebx), rfl, _, _, rfl, rfl, ?_⟩
          refine ⟨_, rfl, ba, _, 1, _, rfl, rfl, SqT.of eb1, rfl, _, _, rfl, rfl, _, rfl, ?_⟩
          refine ifD (fun c4 => ?_) (fun c4 => ?_)
          · have c4 : (0 : Int) < (k : Int) := c4
            rw [if_pos (show 0 < k by omega)] at q
            refine ⟨_, rfl, _, _, rfl, rfl, ?_⟩
            exact ⟨_, rfl, Eq.mp (congrArg (fun v => Q v H1) (congrArg V.int (by rw [e0]; show ((mm + (rr.2 + L) : Nat) : Int) = _; omega))) (q H1 k1)⟩
          · have c4 : ¬ (0 : Int) < (k : Int) := c4
            rw [if_neg (show ¬ 0 < k by omega)] at q
            refine ⟨_, _, rfl, rfl, ?_⟩
            exact ⟨_, rfl, Eq.mp (congrArg (fun v => Q v H1) (congrArg V.int (by rw [e0]; show ((mm + (rr.2 + 0) : Nat) : Int) = _; omega))) (q H1 k1)⟩
        · have c3 : ¬ (0 : Int) < (m : Int) := c3
          rw [if_neg (show ¬ 0 < (j, m).2 from fun z => by have z : 0 < m := z; omega)] at q
          exact ⟨_, rfl, Eq.mp (congrArg (fun v => Q v H1) (congrArg V.int (by rw [e0]; rfl))) (q H1 k1)⟩
      · have c2 : ¬ (j : Int) < (us.length : Int) := c2
        have hj : j = Z.length ∧ m = 0 := by
          rcases hjl with h | h
          · exact h
          · omega
        obtain ⟨rfl, rfl⟩ := hj
        rw [if_pos (show (Z.length, 0).1 = Z.length from rfl)] at q
        refine ⟨_, rfl, ea, _, 1, _, rfl, rfl, SqT.of ee1, rfl, _, _, rfl, rfl, _, rfl, ?_⟩
        refine ifD (fun c3 => absurd (show (0 : Int) < ((0 : Nat) : Int) from c3) (by omega)) (fun _ => ?_)
        exact ⟨_, rfl, q H1 k1⟩
end
end Vf

set_option Elab.async false
set_option linter.all false
set_option maxRecDepth 100000
set_option maxHeartbeats 4000000
namespace Vf
open PySem PySem.Spec PyProof.Rows L2 TL
/-! ### `<` of data -/
def rLtD (K : PySem.W.Frag) : R2 := fun x y H Q => ∃ d e, Dp K H x d ∧ Dp K H y e ∧ PySem.W.alike d e = true ∧ d ≠ .none ∧ min d.depth e.depth ≤ 64 ∧ Q (.bl (PySem.W.dataLt d e)) H
theorem op_ltD {X : Cx} (hu : X.A.units + 65 < cLine) : OpR X (compareOp .Lt) (rLtD X.K) := by
  intro pins s σ H x y v u Q I rx ry h
  obtain ⟨d, e, hd, he, al, nn, dp, q⟩ := h
  obtain ⟨as, r1⟩ := Dp.reads I d x v hd rx
  obtain ⟨bs, r2⟩ := Dp.reads I e y u he ry
  exact PySem.W.lt_data r1 r2 al nn (by omega) ⟨.bl _, H, I, rfl, q⟩
/-! ### a number and a row of pairs -/
def dPr (p : Nat × Nat) : PyData := .tuple [.int (p.1 : Int), .int (p.2 : Int)]
def dRow (ps : List (Nat × Nat)) : PyData := .tuple (ps.map dPr)
def dWy (y : Nat) (ps : List (Nat × Nat)) : PyData := .tuple [.int (y : Int), dRow ps]
theorem al_pr (p q : Nat × Nat) : PySem.W.alike (dPr p) (dPr q) = true := by
  simp only [dPr, PySem.W.alike, PySem.W.alikeAll, Bool.and_self]
theorem al_prs : ∀ ps qs : List (Nat × Nat), PySem.W.alikeAll (ps.map dPr) (qs.map dPr) = true
  | [], _ => by simp only [List.map_nil, PySem.W.alikeAll]
  | _ :: _, [] => by simp only [List.map_nil, List.map_cons, PySem.W.alikeAll]
  | p :: ps, q :: qs => by
    simp only [List.map_cons, PySem.W.alikeAll]
    rw [al_pr, al_prs ps qs]; rfl
theorem al_row (ps qs : List (Nat × Nat)) : PySem.W.alike (dRow ps) (dRow qs) = true := by
  simp only [dRow, PySem.W.alike]
  exact al_prs ps qs
theorem al_wy (y z : Nat) (ps qs : List (Nat × Nat)) : PySem.W.alike (dWy y ps) (dWy z qs) = true := by
  simp only [dWy, PySem.W.alike, PySem.W.alikeAll, Bool.true_and, Bool.and_true]
  exact al_row ps qs
theorem dep_prs : ∀ ps : List (Nat × Nat), PyData.depthAll (ps.map dPr) ≤ 1
  | [] => Nat.zero_le _
  | p :: ps => by
    have := dep_prs ps
    simp only [List.map_cons, PyData.depthAll, dPr, PyData.depth]
    omega
theorem dep_wy (y : Nat) (ps : List (Nat × Nat)) : (dWy y ps).depth ≤ 64 := by
  have := dep_prs ps
  simp only [dWy, dRow, PyData.depth, PyData.depthAll]
  omega
theorem lt_wy_less {y z : Nat} {ps qs : List (Nat × Nat)} (h : y < z) : PySem.W.dataLt (dWy y ps) (dWy z qs) = true := by
  unfold dWy
  rw [PySem.W.dataLt_pair (by simp only [PySem.W.alike]) (al_row ps qs), if_neg (by simp only [PyData.eqv, beq_iff_eq]; omega), PySem.W.dataLt_int]
  exact decide_eq_true (by omega)
theorem lt_wy_more {y z : Nat} {ps qs : List (Nat × Nat)} (h : z < y) : PySem.W.dataLt (dWy y ps) (dWy z qs) = false := by
  unfold dWy
  rw [PySem.W.dataLt_pair (by simp only [PySem.W.alike]) (al_row ps qs), if_neg (by simp only [PyData.eqv, beq_iff_eq]; omega), PySem.W.dataLt_int]
  exact decide_eq_false (by omega)
theorem eqv_pr_self (p : Nat × Nat) : PyData.eqv (dPr p) (dPr p) = true := by
  simp only [dPr, PyData.eqv, PyData.eqvAll, beq_self_eq_true, Bool.and_self]
/-- the same number, the same first pair, then a greater one -/
theorem lt_wy_later {y : Nat} {p q q' : Nat × Nat} {ps qs : List (Nat × Nat)} (h : q'.1 < q.1 ∨ (q'.1 = q.1 ∧ q'.2 < q.2)) : PySem.W.dataLt (dWy y (p :: q :: ps)) (dWy y (p :: q' :: qs)) = false := by
  unfold dWy
  rw [PySem.W.dataLt_pair (by simp only [PySem.W.alike]) (al_row _ _), if_pos (by simp only [PyData.eqv, beq_self_eq_true])]
  have hr : PySem.W.dataLt (dRow (p :: q :: ps)) (dRow (p :: q' :: qs)) = false := by
    unfold dRow
    rw [PySem.W.dataLt_tuple, List.map_cons, List.map_cons, List.map_cons, List.map_cons, PySem.W.dataLt_cons (al_pr p p), if_pos (eqv_pr_self p), PySem.W.dataLt_cons (al_pr q q')]
    have hne : ¬ PyData.eqv (dPr q) (dPr q') = true := by
      simp only [dPr, PyData.eqv, PyData.eqvAll, Bool.and_true, Bool.and_eq_true, beq_iff_eq]
      omega
    rw [if_neg hne]
    unfold dPr
    rw [PySem.W.dataLt_ii]
    exact decide_eq_false (by omega)
  rw [hr]
  split <;> rfl
theorem dp_prs {K : PySem.W.Frag} {H : Hp} : ∀ {us : List V} {rs : List (Nat × Nat)}, us.length = rs.length → (∀ (i : Nat) r, rs[i]? = some r → ∃ x, us[i]? = some x ∧ FgV H x r) → DpAll K H us (rs.map dPr)
  | [], [], _, _ => .nil
  | [], _ :: _, h, _ => by cases h
  | _ :: _, [], h, _ => by cases h
  | u :: us, r :: rs, h, k => by
    obtain ⟨x, e, b, hx, eb⟩ := k 0 r rfl
    have e : u = x := Option.some.inj e
    subst e
    subst hx
    exact .cons (.tup (SqT.of eb) (.cons (.int _) (.cons (.int _) .nil))) (dp_prs (Nat.succ.inj h) fun i r e => k (i + 1) r e)
theorem dp_wy {K : PySem.W.Frag} {H : Hp} {p q : Addr} {y : Nat} {ws : List V} {rs : List (Nat × Nat)} (e1 : H p = some (.tup [nV y, .ref q])) (e2 : H q = some (.tup ws)) (lv : LV (FgV H) ws rs) : Dp K H (.ref p) (dWy y rs) :=
  .tup (SqT.of e1) (.cons (.int _) (.cons (.tup (SqT.of e2) (dp_prs lv.1 lv.2)) .nil))
theorem LV.rev {α : Type} {R : V → α → Prop} {us : List V} {rs : List α} (h : LV R us rs) : LV R us.reverse rs.reverse := by
  have l := h.1
  refine ⟨by rw [List.length_reverse, List.length_reverse, l], fun i r e => ?_⟩
  have hi : i < rs.length := by
    have := (List.getElem?_eq_some_iff.mp e).1
    rwa [List.length_reverse] at this
  rw [List.getElem?_reverse hi] at e
  obtain ⟨x, ex, hx⟩ := h.2 _ r e
  exact ⟨x, by rw [List.getElem?_reverse (by omega), l]; exact ex, hx⟩
variable {P : Program} {w : World} {K : PySem.W.Frag} {mg : Str → Option Value} {base : Heap}
theorem ixN_nat {n j : Nat} (h : j < n) : ixN n (j : Int) = some j := by
  unfold ixN
  rw [if_pos (by omega), if_pos (by omega)]; simp
theorem catA_any {K : PySem.W.Frag} {H : Hp} {a b : Addr} {xs ys : List V} {Q : VK} (ea : H a = some (.tup xs)) (eb : H b = some (.tup ys)) (hz : xs.length + ys.length ≤ sizeLine) (q : ∀ c H', Same H H' → H' c = some (.tup (xs ++ ys)) → Q (.ref c) H') : rCatA K (.ref a) (.ref b) H Q :=
  ⟨a, b, xs, ys, rfl, rfl, SqT.of ea, SqT.of eb, hz, fun z => q b H (Same.refl H) (by rw [z]; exact eb), fun _ z => q a H (Same.refl H) (by rw [z, List.append_nil]; exact ea), fun _ _ p np => q p _ (same_upd (Same.refl H) np) upd_same⟩
end Vf

set_option Elab.async false
set_option linter.all false
set_option maxRecDepth 100000
set_option maxHeartbeats 4000000
namespace Vf
open PySem PySem.Spec PyProof.Rows L2 TL
theorem rv_set {g : Nat → Option Nat} {b u : Nat} (hb : ∀ v t, g v = some t → t < b) : ∀ n j, j ≠ b → rv (fset g b u) n j = rv g n j
  | 0, _, _ => rfl
  | n + 1, j, hj => by
    unfold rv
    rw [fset_ne hj]
    cases e : g j with
    | none => rfl
    | some t =>
      have := hb j t e
      show j :: rv (fset g b u) n t = j :: rv g n t
      rw [rv_set hb n t (by omega)]
theorem Rw_set {g : Nat → Option Nat} {b u : Nat} (hb : ∀ v t, g v = some t → t < b) {j : Nat} (hj : j ≠ b) : Rw (fset g b u) j = Rw g j := rv_set hb j j hj
theorem Rw_new {g : Nat → Option Nat} {b u : Nat} (hb : ∀ v t, g v = some t → t < b) (dn : ∀ v t, g v = some t → t < v) (hu : u < b) : Rw (fset g b u) b = b :: Rw g u := by
  have dn' : ∀ v t, fset g b u v = some t → t < v := fun v t e => by
    by_cases c : v = b
    · subst c
      rw [fset_same] at e
      have := Option.some.inj e
      omega
    · rw [fset_ne c] at e; exact dn v t e
  rw [Rw_some dn' (v := b) (u := u) fset_same, Rw_set hb (by omega)]
/-- the best of a place: its total and its way back -/
def BeP (S : Sty) (Z : List (List Nat)) (H : Hp) (x : V) (o : Option Nat) (ns : List Nat) : Prop := match o with
  | none => x = .non
  | some y => ∃ p q ws, x = .ref p ∧ H p = some (.tup [nV y, .ref q]) ∧ H q = some (.tup ws) ∧ LV (FgV H) ws (ns.map (atQ S Z))
theorem BeP.tk {S : Sty} {Z : List (List Nat)} {H H' : Hp} {x : V} {o : Option Nat} {ns : List Nat} (h : BeP S Z H x o ns) (k : ∀ a xs, H a = some (.tup xs) → H' a = some (.tup xs)) : BeP S Z H' x o ns := by
  cases o with
  | none => exact h
  | some y =>
    obtain ⟨p, q, ws, e, h1, h2, h3⟩ := h
    exact ⟨p, q, ws, e, k _ _ h1, k _ _ h2, h3.mono fun _ _ z => z.kt k⟩
def BsP (S : Sty) (Z : List (List Nat)) (H : Hp) (L : Addr) (f g : Nat → Option Nat) : Prop := ∃ bs : List V, H L = some (.lst bs) ∧ bs.length = (posL S Z).length ∧ ∀ j, j < (posL S Z).length → ∃ x, bs[j]? = some x ∧ BeP S Z H x (f j) (Rw g j)
/-- what the law's own search leaves -/
def DueW (S : Sty) (Z : List (List Nat)) (H : Hp) (x : V) (f g : Nat → Option Nat) : Prop := match f ((posL S Z).length - 1) with
  | none => x = .non
  | some _ => ∃ p, x = .ref p ∧ WayV S Z H p (Rw g ((posL S Z).length - 1)).reverse
section
variable {M L : Nat} {S : Sty} {Z : List (List Nat)}
theorem net_row {a : Nat} (ha : a + 1 < (posL S Z).length) (r : Arc) : (r ∈ netQ M L S Z ∧ r.1 = a) ↔ ∃ s, s < (posL S Z).length - (a + 1) ∧ arcAt M L S Z a (a + 1 + s) = some r := by
  constructor
  · rintro ⟨h1, h2⟩
    have h3 : r.2 ∈ adjT (netQ M L S Z) a := adjT_mem.mpr (by rw [← h2]; exact h1)
    rw [netQ_adj ha] at h3
    obtain ⟨r', h4, h5⟩ := List.mem_map.mp h3
    have h6 := rowQ_fst a r' h4
    have e : r' = r := Prod.ext (by rw [h6, h2]) h5
    rw [e, rowQ_at ha] at h4
    obtain ⟨s, hs, es⟩ := List.mem_filterMap.mp h4
    exact ⟨s, List.mem_range.mp hs, es⟩
  · rintro ⟨s, hs, es⟩
    have h1 : r ∈ rowQ M L S Z a := by
      rw [rowQ_at ha]
      exact List.mem_filterMap.mpr ⟨s, List.mem_range.mpr hs, es⟩
    have h2 := rowQ_fst a r h1
    refine ⟨?_, h2⟩
    have h3 : r.2 ∈ adjT (netQ M L S Z) a := by
      rw [netQ_adj ha]
      exact List.mem_map.mpr ⟨r, h1, rfl⟩
    have := adjT_mem.mp h3
    rw [← h2] at this
    exact this
/-- where a whole word's end doesn't fit, nothing behind it does -/
theorem arc_far {a s s' : Nat} (hs' : s' < (posL S Z).length - (a + 1)) (h : s ≤ s') (e : arcAt M L S Z a (a + 1 + s) = none) (e0 : (atQ S Z (a + 1 + s)).2 = 0) : arcAt M L S Z a (a + 1 + s') = none := by
  have asc := List.pairwise_iff_getElem.mp (pos_asc S Z)
  have la : a < (posL S Z).length := by omega
  have lb : a + 1 + s < (posL S Z).length := by omega
  have lc : a + 1 + s' < (posL S Z).length := by omega
  have ga : atQ S Z a = (posL S Z)[a] := getD_of (List.getElem?_eq_getElem la)
  have gb : atQ S Z (a + 1 + s) = (posL S Z)[a + 1 + s] := getD_of (List.getElem?_eq_getElem lb)
  have gc : atQ S Z (a + 1 + s') = (posL S Z)[a + 1 + s'] := getD_of (List.getElem?_eq_getElem lc)
  have h1 : LtP (atQ S Z a) (atQ S Z (a + 1 + s)) := by rw [ga, gb]; exact asc a (a + 1 + s) la lb (by omega)
  have h2 : atQ S Z (a + 1 + s) = atQ S Z (a + 1 + s') ∨ LtP (atQ S Z (a + 1 + s)) (atQ S Z (a + 1 + s')) := by
    rcases Nat.lt_or_eq_of_le h with c | c
    · refine .inr ?_
      rw [gb, gc]; exact asc _ _ lb lc (by omega)
    · exact .inl (by rw [c])
  unfold arcAt arcD at e ⊢
  rw [show (posL S Z).getD a (0, 0) = atQ S Z a from rfl] at e ⊢
  rw [show (posL S Z).getD (a + 1 + s) (0, 0) = atQ S Z (a + 1 + s) from rfl] at e
  rw [show (posL S Z).getD (a + 1 + s') (0, 0) = atQ S Z (a + 1 + s') from rfl]
  generalize atQ S Z a = x at *
  generalize atQ S Z (a + 1 + s) = y at *
  generalize atQ S Z (a + 1 + s') = z at *
  have hn : M < natW S Z x.1 x.2 y := by
    by_cases c : natW S Z x.1 x.2 y ≤ M
    · rw [if_pos c] at e; cases e
    · omega
  have h1 : x.1 < y.1 := by
    rcases h1 with h | h
    · exact h
    · omega
  have hyz : y.1 ≤ z.1 := by
    rcases h2 with h | h | h
    · rw [h]; exact Nat.le_refl _
    · exact Nat.le_of_lt h
    · exact Nat.le_of_eq h.1
  have hn2 : M < ahW S Z x.1 x.2 (y.1 - x.1) - 1 := by
    unfold natW at hn
    rwa [if_pos e0] at hn
  have := fit_far (M := M) (S := S) (Z := Z) (i := x.1) (k := x.2) (t := y.1 - x.1) hn2 (y := z) (by omega)
  unfold fitO at this
  by_cases c : natW S Z x.1 x.2 z ≤ M
  · rw [if_pos c] at this; cases this
  · rw [if_neg c]
end
end Vf

set_option Elab.async false
set_option linter.all false
set_option maxRecDepth 100000
set_option maxHeartbeats 4000000
namespace Vf
open PySem PySem.Spec PyProof.Rows L2 TL
theorem bd_tail {Pr : Arc → Prop} {f g : Nat → Option Nat} (B : Bd Pr f g) {v u : Nat} (e : g v = some u) : ∃ c, Pr (u, v, c) := by
  by_cases hv : v = 0
  · subst hv; rw [B.z.2] at e; cases e
  · cases h : f v with
    | none => rw [(B.n v hv h).1] at e; cases e
    | some y =>
      obtain ⟨u', c, x, h1, h2, _⟩ := B.s v y hv h
      rw [e] at h1
      have := Option.some.inj h1
      subst this
      exact ⟨c, h2⟩
theorem arcAt_eq {M L : Nat} {S : Sty} {Z : List (List Nat)} {a b : Nat} {x y : Nat × Nat} (hx : (posL S Z)[a]? = some x) (hy : (posL S Z)[b]? = some y) : arcAt M L S Z a b = if natW S Z x.1 x.2 y ≤ M then some (a, b, costQ M L S Z x.2 y (natW S Z x.1 x.2 y)) else none := by
  unfold arcAt arcD
  rw [getD_of hx, getD_of hy]
theorem atQ_zero {S : Sty} {Z : List (List Nat)} : atQ S Z 0 = (0, 0) := by
  unfold atQ posL
  cases h : Z.length with
  | zero => rfl
  | succ n =>
    rw [List.range_succ_eq_map, List.flatMap_cons]
    unfold rowL
    rw [List.range_succ_eq_map]; rfl
/-- the arcs that are done, the s first ones of place a among them -/
def PrI (M L : Nat) (S : Sty) (Z : List (List Nat)) (a s : Nat) : Arc → Prop := fun r => (r ∈ netQ M L S Z ∧ r.1 < a) ∨ ∃ s', s' < s ∧ arcAt M L S Z a (a + 1 + s') = some r
section
variable {M L : Nat} {S : Sty} {Z : List (List Nat)}
theorem prI_zero {a : Nat} (r : Arc) : PrI M L S Z a 0 r ↔ (r ∈ netQ M L S Z ∧ r.1 < a) :=
  ⟨fun h => h.elim id fun ⟨_, h, _⟩ => absurd h (Nat.not_lt_zero _), .inl⟩
theorem prI_le {a s : Nat} {r : Arc} (h : PrI M L S Z a s r) : r.1 ≤ a := by
  rcases h with h | ⟨s', _, e⟩
  · omega
  · exact Nat.le_of_eq (arcAt_is e).1
theorem prI_none {a s : Nat} (e : arcAt M L S Z a (a + 1 + s) = none) (r : Arc) : PrI M L S Z a (s + 1) r ↔ PrI M L S Z a s r := by
  constructor
  · rintro (h | ⟨s', h, e'⟩)
    · exact .inl h
    · by_cases c : s' = s
      · subst c; rw [e] at e'; cases e'
      · exact .inr ⟨s', by omega, e'⟩
  · rintro (h | ⟨s', h, e'⟩)
    · exact .inl h
    · exact .inr ⟨s', by omega, e'⟩
theorem prI_some {a s : Nat} {r0 : Arc} (e : arcAt M L S Z a (a + 1 + s) = some r0) (r : Arc) : PrI M L S Z a (s + 1) r ↔ (PrI M L S Z a s r ∨ r = r0) := by
  constructor
  · rintro (h | ⟨s', h, e'⟩)
    · exact .inl (.inl h)
    · by_cases c : s' = s
      · subst c; rw [e] at e'; exact .inr (Option.some.inj e').symm
      · exact .inl (.inr ⟨s', by omega, e'⟩)
  · rintro ((h | ⟨s', h, e'⟩) | h)
    · exact .inl h
    · exact .inr ⟨s', by omega, e'⟩
    · exact .inr ⟨s, Nat.lt_succ_self s, by rw [h]; exact e⟩
theorem prI_end {a s : Nat} (hn : a < (posL S Z).length) (h : ∀ s', s ≤ s' → s' < (posL S Z).length - (a + 1) → arcAt M L S Z a (a + 1 + s') = none) (hs : s ≤ (posL S Z).length - (a + 1)) (r : Arc) : (r ∈ netQ M L S Z ∧ r.1 < a + 1) ↔ PrI M L S Z a s r := by
  constructor
  · rintro ⟨h1, h2⟩
    by_cases c : r.1 < a
    · exact .inl ⟨h1, c⟩
    · have e : r.1 = a := by omega
      have ha : a + 1 < (posL S Z).length := by have := netQ_up r h1; omega
      obtain ⟨s', h3, h4⟩ := (net_row ha r).mp ⟨h1, e⟩
      refine .inr ⟨s', ?_, h4⟩
      by_cases d : s ≤ s'
      · rw [h s' d h3] at h4; cases h4
      · omega
  · rintro (h1 | ⟨s', h3, h4⟩)
    · exact ⟨h1.1, by omega⟩
    · have ha : a + 1 < (posL S Z).length := by omega
      have := (net_row ha r).mpr ⟨s', by omega, h4⟩
      exact ⟨this.1, by omega⟩
end
theorem BsP.put {S : Sty} {Z : List (List Nat)} {H : Hp} {A nw q : Addr} {ws : List V} {f g : Nat → Option Nat} {bs : List V} {a b x : Nat} (e : H A = some (.lst bs)) (hl : bs.length = (posL S Z).length) (hb : ∀ j, j < (posL S Z).length → ∃ y, bs[j]? = some y ∧ BeP S Z H y (f j) (Rw g j)) (hbn : b < (posL S Z).length) (hu : a < b)
    (tl : ∀ v t, g v = some t → t < b) (dn : ∀ v t, g v = some t → t < v) (e1 : H nw = some (.tup [nV x, .ref q])) (e2 : H q = some (.tup ws)) (lw : LV (FgV H) ws ((b :: Rw g a).map (atQ S Z))) : BsP S Z (upd H A (.lst (bs.set b (.ref nw)))) A (fset f b x) (fset g b a) := by
  have kt := kt_mut (zs := bs.set b (.ref nw)) e
  refine ⟨_, upd_same, by rw [List.length_set]; exact hl, fun j hj => ?_⟩
  by_cases c : j = b
  · subst c
    refine ⟨.ref nw, by rw [List.getElem?_set_self (by omega)], ?_⟩
    rw [fset_same, Rw_new tl dn hu]
    exact ⟨nw, q, ws, rfl, kt _ _ e1, kt _ _ e2, lw.mono fun _ _ z => z.kt kt⟩
  · obtain ⟨y, ey, h⟩ := hb j hj
    refine ⟨y, by rw [List.getElem?_set_ne (Ne.symm c)]; exact ey, ?_⟩
    rw [fset_ne c, Rw_set tl c]
    exact h.tk kt
section
variable {P : Program} {w : World} {K : PySem.W.Frag} {mg : Str → Option Value} {base : Heap}
def spLLines : Sp := fun vs H Q _ => ∃ (sa : Addr) (us : List V) (S : Sty) (Z : List (List Nat)) (M L : Nat) (f g : Nat → Option Nat), vs = [nV M, nV L, .ref sa] ∧ SeqH H sa us ∧ LV (ShV S H) us Z ∧ WdsOk S Z ∧ (∀ z ∈ Z, WdOk z) ∧ (posL S Z).length ≤ 91 ∧ M ≤ 1000000 ∧ Bd (· ∈ netQ M L S Z) f g ∧
  ∀ H' x, Same H H' → DueW S Z H' x f g → Q x H'
theorem ok_llines (T : Txt K mg) : FnOk P w K mg base CX0 4 T.a_law_lines T.d_law_lines ["_law_measure_here", "_law_ladder", "_law_shapes"] spLLines := by
  have G_law_positions : FnOk P w K mg base CX0 1 T.a_law_positions T.d_law_positions ["_law_shapes"] spLPos := ok_lpos T
  have G_law_line_cost : FnOk P w K mg base CX0 3 T.a_law_line_cost T.d_law_line_cost ["_law_measure_here", "_law_ladder", "_law_shapes", "_law_start", "_law_end"] spLC := ok_lc T
  refine T.D_law_lines.F.ok sc_law_lines (fun vs H Q E h => ?_) (fun cdv A outer s H vs Q E hr h => ?_)
  · obtain ⟨_, _, _, _, _, _, _, _, rfl, _⟩ := h
    rfl
  · obtain ⟨sa, us, S, Z, M, L, f, g, rfl, es, lv, ok, h16, l91, hM, bd, q⟩ := h
    have n0p := pos_pos (S := S) (Z := Z)
    have up : ∀ a ∈ netQ M L S Z, a.1 < a.2.1 := fun a h => (netQ_up a h).1
    refine ⟨_, (pss_cons (ps_set (i := 3) sc_law_lines.nd rfl (.inl rfl) (pe_call G_law_positions (hr.mono (by decide)) (by rfl) T.D_law_positions.G T.D_law_positions.F.kp T.D_law_positions.B .nil pass0 (pa_cons (pv 2) pa_nil)))
      (pss_cons (ps_set (i := 4) sc_law_lines.nd rfl (.inl rfl) (pe_op op_rep (pe_lst (pa_cons pe_non pa_nil)) (pe_callB call_len_seq (by rfl) T.n_len PySem.boot_len (pa_cons (pv 3) pa_nil))))
      (pss_cons (ps_asg (pe_tup (pa_cons pe_int (pa_cons (pe_tup (pa_cons (pe_tup (pa_cons pe_int (pa_cons pe_int pa_nil))) pa_nil)) pa_nil))) (pg_sub (pv 4) pe_int set_list))
      (pss_cons (ps_for PassesOwn.never rfl (pi_range1 (by rfl) T.n_range (pa_cons (pe_callB call_len_seq (by rfl) T.n_len PySem.boot_len (pa_cons (pv 3) pa_nil)) pa_nil)) (pg_name (i := 5) sc_law_lines.nd rfl (.inl rfl)) (pss_cons (ps_if (pt_cmpR op_isN (pe_ix ix_list (pv 4) (pv 5) (fun _ _ => rfl)) pe_non (nomark _)) (pss_one ps_continue) pss_nil)
      (pss_one (ps_for PassesOwn.never rfl (pi_range2 (by rfl) T.n_range (pa_cons (pe_op op_add (pv 5) pe_int) (pa_cons (pe_callB call_len_seq (by rfl) T.n_len PySem.boot_len (pa_cons (pv 3) pa_nil)) pa_nil))) (pg_name (i := 6) sc_law_lines.nd rfl (.inl rfl)) (pss_cons (ps_set (i := 7) sc_law_lines.nd rfl (.inl rfl) (pe_call G_law_line_cost (hr.mono (by decide)) (by rfl) T.D_law_line_cost.G T.D_law_line_cost.F.kp T.D_law_line_cost.B .nil pass0 (pa_cons (pv 0) (pa_cons (pv 1) (pa_cons (pv 2) (pa_cons (pe_ix ix_list (pv 3) (pv 5) (fun _ _ => rfl)) (pa_cons (pe_ix ix_list (pv 3) (pv 6) (fun _ _ => rfl)) pa_nil)))))))
      (pss_cons (ps_if (PW.pt (pw_and (pt_cmpR op_isN (pv 7) pe_non (nomark _)) (pw_and1 (pt_cmpR op_eq (pe_ix ix_tup (pe_ix ix_list (pv 3) (pv 6) (fun _ _ => rfl)) pe_int (fun _ _ => rfl)) pe_int (nomark _))))) (pss_one ps_break) pss_nil)
      (pss_one (ps_if (pt_cmpR op_notN (pv 7) pe_non (nomark _)) (pss_cons (ps_set (i := 8) sc_law_lines.nd rfl (.inl rfl) (pe_tup (pa_cons (pe_op op_add (pe_ix ix_tup (pe_ix ix_list (pv 4) (pv 5) (fun _ _ => rfl)) pe_int (fun _ _ => rfl)) (pv 7)) (pa_cons (pe_op op_catA (pe_tup (pa_cons (pe_ix ix_list (pv 3) (pv 6) (fun _ _ => rfl)) pa_nil)) (pe_ix ix_tup (pe_ix ix_list (pv 4) (pv 5) (fun _ _ => rfl)) pe_int (fun _ _ => rfl))) pa_nil))))
      (pss_one (ps_if (PW.pt (pw_or (pt_cmpR op_isN (pe_ix ix_list (pv 4) (pv 6) (fun _ _ => rfl)) pe_non (nomark _)) (pw_or1 (pt_cmpR (op_ltD (hu65 hr)) (pv 8) (pe_ix ix_list (pv 4) (pv 6) (fun _ _ => rfl)) (nomark _))))) (pss_one (ps_asg (pv 8) (pg_sub (pv 4) (pv 6) set_list))) pss_nil))) pss_nil))))))))
      (pss_cons (ps_if (pt_cmpR op_isN (pe_ix ix_list (pv 4) (pe_un un_neg pe_int) (fun _ _ => rfl)) pe_non (nomark _)) (pss_one (ps_ret pe_non)) pss_nil)
      (pss_cons (ps_set (i := 9) sc_law_lines.nd rfl (.inl rfl) (pe_callTy call_list_of (by rfl) T.n_list (by decide +kernel) (pa_cons (pe_ix ix_tup (pe_ix ix_list (pv 4) (pe_un un_neg pe_int) (fun _ _ => rfl)) pe_int (fun _ _ => rfl)) pa_nil)))
      (pss_cons (ps_expr (pe_bm0 PySem.F.plainAttrs_list PySem.F.slot_list_reverse PySem.F.type_list_reverse mt_reverse (pv 9)))
      (pss_one (ps_ret (pe_callTy call_tuple_of (by rfl) T.n_tuple (by decide +kernel) (pa_cons (pv 9) pa_nil))))))))))), ?_⟩
    refine ⟨_, rfl, sa, us, S, Z, rfl, es, lv, ok, fun H1 pl ps k1 n1 e1 lp => ?_⟩
    have lpn := lp.1
    refine ⟨by show 1 ≤ sizeLine; decide, fun L0 nL0 => ?_⟩
    have s0 := same_upd (o := .lst [V.non]) (Same.refl H1) nL0
    refine ⟨_, rfl, pl, ps, rfl, .inl (SqL.of (s0 _ _ e1)), ?_⟩
    refine ⟨L0, _, [V.non], rfl, rfl, upd_same, by omega, by omega, by simp; exact Nat.le_of_lt (szN (by omega)), fun B nB => ?_⟩
    have eR : (List.replicate ((ps.length : Nat) : Int).toNat [V.non]).flatten = List.replicate (posL S Z).length V.non := by
      rw [Int.toNat_natCast, lpn]
      generalize (posL S Z).length = n
      induction n with
      | zero => rfl
      | succ n ih => rw [List.replicate_succ, List.flatten_cons, ih]; rfl
    have s1 := same_upd (o := .lst (List.replicate ((ps.length : Nat) : Int).toNat [V.non]).flatten) (Same.refl _) nB
    have sA := s0.trans s1
    have eB : upd (upd H1 L0 (.lst [V.non])) B (.lst (List.replicate ((ps.length : Nat) : Int).toNat [V.non]).flatten) B = some (.lst (List.replicate (posL S Z).length V.non)) := by rw [← eR]; exact upd_same
    have nB1 : H1 B = none := Same.free s0 nB
    generalize upd (upd H1 L0 (.lst [V.non])) B (.lst (List.replicate ((ps.length : Nat) : Int).toNat [V.non]).flatten) = H2 at sA eB
    refine ⟨by show 2 ≤ sizeLine; decide, fun b1 nb1 => ⟨by show 1 ≤ sizeLine; decide, fun b2 nb2 => ⟨by show 2 ≤ sizeLine; decide, fun b3 nb3 => ?_⟩⟩⟩
    have t1 := same_upd (o := .tup [V.int 0, V.int 0]) (Same.refl H2) nb1
    have f1 : upd H2 b1 (.tup [V.int 0, V.int 0]) b1 = some (.tup [nV 0, nV 0]) := upd_same
    generalize upd H2 b1 (.tup [V.int 0, V.int 0]) = H3 at t1 f1 nb2 nb3
    have t2 := same_upd (o := .tup [V.ref b1]) (Same.refl H3) nb2
    have f2 : upd H3 b2 (.tup [V.ref b1]) b2 = some (.tup [V.ref b1]) := upd_same
    generalize upd H3 b2 (.tup [V.ref b1]) = H4 at t2 f2 nb3
    have t3 := same_upd (o := .tup [V.int 0, V.ref b2]) (Same.refl H4) nb3
    have f3 : upd H4 b3 (.tup [V.int 0, V.ref b2]) b3 = some (.tup [nV 0, V.ref b2]) := upd_same
    generalize upd H4 b3 (.tup [V.int 0, V.ref b2]) = H5 at t3 f3
    have t13 := (t1.trans t2).trans t3
    have eB5 := t13 _ _ eB
    refine ⟨_, rfl, B, _, 0, 0, rfl, rfl, eB5, ixN_nat (j := 0) (by rw [List.length_replicate]; omega), ?_⟩
    have q0 : atQ S Z 0 = (0, 0) := atQ_zero
    have bs0 : BsP S Z (upd H5 B (.lst ((List.replicate (posL S Z).length V.non).set 0 (.ref b3)))) B (fset (fun _ => none) 0 0) (fun _ => none) := by
      have kt := kt_mut (zs := (List.replicate (posL S Z).length V.non).set 0 (.ref b3)) eB5
      refine ⟨_, upd_same, by rw [List.length_set, List.length_replicate], fun j hj => ?_⟩
      by_cases c : j = 0
      · subst c
        refine ⟨.ref b3, by rw [List.getElem?_set_self (by rw [List.length_replicate]; exact hj)], ?_⟩
        rw [fset_same, Rw_none rfl]
        refine ⟨b3, b2, [.ref b1], rfl, kt _ _ f3, kt _ _ (t3 _ _ f2), ?_⟩
        show LV _ _ [atQ S Z 0]
        rw [q0]
        exact LV.snoc LV.nil ⟨b1, rfl, kt _ _ (t3 _ _ (t2 _ _ f1))⟩
      · refine ⟨.non, by rw [List.getElem?_set_ne (Ne.symm c), List.getElem?_replicate, if_pos hj], ?_⟩
        rw [fset_ne c]; rfl
    have k5 : Same H1 (upd H5 B (.lst ((List.replicate (posL S Z).length V.non).set 0 (.ref b3)))) := same_mut (sA.trans t13) nB1
    generalize upd H5 B (.lst ((List.replicate (posL S Z).length V.non).set 0 (.ref b3))) = H6 at bs0 k5
    refine ⟨_, rfl, pl, ps, rfl, .inl (SqL.of (k5 _ _ e1)), ((posL S Z).length : Int), by rw [lpn], by omega, by omega, ?_⟩
    rw [Int.toNat_natCast]
    refine for_it walk_range (fun a σ' H' => ∃ (x5 x6 x7 x8 : Option V) (f1 g1 : Nat → Option Nat), σ' = [some (nV M), some (nV L), some (.ref sa), some (.ref pl), some (.ref B), x5, x6, x7, x8, none] ∧ Same H1 H' ∧ BsP S Z H' B f1 g1 ∧ Bd (fun r => r ∈ netQ M L S Z ∧ r.1 < a) f1 g1) ⟨none, none, none, none, _, _, rfl, k5, bs0, Bd.start.congr fun r => ⟨fun h => absurd h.2 (Nat.not_lt_zero _), fun h => False.elim h⟩⟩ (fun _ _ _ _ _ => trivial) ?_ ?_
    · rintro a x σ' H0 H7 ha ⟨x5, x6, x7, x8, f1, g1, rfl, k7, ⟨bs, eb7, lb, hb⟩, B1⟩ ⟨rfl, hx⟩
      have hx : x = nV a := by rw [hx]; exact int0 a
      subst hx
      obtain ⟨y, ey, by_⟩ := hb a ha
      cases hf : f1 a with
      | none =>
        rw [hf] at by_
        have by_ : y = .non := by_
        subst by_
        refine ⟨_, rfl, _, rfl, B, _, _, _, rfl, rfl, SqL.of eb7, atI_nat ey, rfl, _, rfl, ?_⟩
        refine ⟨_, _, _, _, f1, g1, rfl, k7, ⟨bs, eb7, lb, hb⟩, ?_⟩
        refine (B1.none_ (P2 := fun r => r ∈ netQ M L S Z ∧ r.1 = a) fun r h => by rw [h.2]; exact hf).congr fun r => ⟨fun ⟨h1, h2⟩ => ?_, fun h => ?_⟩
        · by_cases c : r.1 < a
          · exact .inl ⟨h1, c⟩
          · exact .inr ⟨h1, by omega⟩
        · rcases h with h | h
          · exact ⟨h.1, by omega⟩
          · exact ⟨h.1, by omega⟩
      | some x0 =>
        rw [hf] at by_
        obtain ⟨p, qa, wa, rfl, ep, eqa, lwa⟩ := by_
        refine ⟨_, rfl, _, rfl, B, _, _, _, rfl, rfl, SqL.of eb7, atI_nat ey, rfl, _, rfl, ?_⟩
        clear ep eqa lwa
        have en : (((posL S Z).length : Int) - ((a + 1 : Nat) : Int)).toNat = (posL S Z).length - (a + 1) := by omega
        refine ⟨_, rfl, _, _, rfl, rfl, _, rfl, pl, ps, rfl, .inl (SqL.of (k7 _ _ e1)), ((a + 1 : Nat) : Int), ((posL S Z).length : Int), by rw [lpn]; rfl, by omega, ?_⟩
        rw [en]
        refine for_it walk_range (fun s σ' H' => ∃ (x6 x7 x8 : Option V) (f2 g2 : Nat → Option Nat), σ' = [some (nV M), some (nV L), some (.ref sa), some (.ref pl), some (.ref B), some (nV a), x6, x7, x8, none] ∧ Same H1 H' ∧ BsP S Z H' B f2 g2 ∧ f2 a = some x0 ∧ Bd (PrI M L S Z a s) f2 g2) ⟨x6, x7, x8, f1, g1, rfl, k7, ⟨bs, eb7, lb, hb⟩, hf, B1.congr prI_zero⟩ (fun _ _ _ _ _ => trivial) ?_ ?_
        · rintro s x σ' H0 H8 hs ⟨x6, x7, x8, f2, g2, rfl, k8, ⟨bs2, eb8, lb2, hb2⟩, hf2, B2⟩ ⟨rfl, hx⟩
          have hx : x = nV (a + 1 + s) := by rw [hx]; exact congrArg V.int (by omega)
          subst hx
          have hbl : a + 1 + s < (posL S Z).length := by omega
          obtain ⟨px, gx⟩ : ∃ px, (posL S Z)[a]? = some px := ⟨_, List.getElem?_eq_getElem (by omega)⟩
          obtain ⟨py, gy⟩ : ∃ py, (posL S Z)[a + 1 + s]? = some py := ⟨_, List.getElem?_eq_getElem hbl⟩
          obtain ⟨xa, exa, ba, rfl, eba⟩ := lp.2 _ _ gx
          obtain ⟨xb, exb, bb, rfl, ebb⟩ := lp.2 _ _ gy
          have two := pos_two (show a < a + 1 + s by omega) gx gy
          refine ⟨_, rfl, _, rfl, _, rfl, _, rfl, _, rfl, pl, ps, _, _, rfl, rfl, SqL.of (k8 _ _ e1), atI_nat exa, _, rfl, _, rfl, pl, ps, _, _, rfl, rfl, SqL.of (k8 _ _ e1), atI_nat exb, sa, ba, bb, us, S, Z, M, L, px.1, px.2, py.1, py.2, rfl, (es.same k1).same k8, lv.mono fun _ _ z => ShV.kt z fun _ _ e => k8 _ _ (k1 _ _ e), ok, h16, k8 _ _ eba, k8 _ _ ebb, two.1, two.2.1, two.2.2, hM, fun H9 k9 => ?_⟩
          have k19 := k8.trans k9
          have ea := arcAt_eq (M := M) (L := L) gx gy
          have hb9 : ∀ j, j < (posL S Z).length → ∃ y, bs2[j]? = some y ∧ BeP S Z H9 y (f2 j) (Rw g2 j) := fun j hj => by
            obtain ⟨y, e, h⟩ := hb2 j hj
            exact ⟨y, e, h.tk (same_tup k9)⟩
          have eb9 := k9 _ _ eb8
          by_cases cM : natW S Z px.1 px.2 (py.1, py.2) ≤ M
          · rw [if_pos cM]
            rw [if_pos cM] at ea
            generalize costQ M L S Z px.2 (py.1, py.2) (natW S Z px.1 px.2 (py.1, py.2)) = c at ea ⊢
            refine ⟨_, rfl, rfl, _, rfl, ?_⟩
            refine iteF ?_
            refine iteF ?_
            refine ⟨_, rfl, rfl, _, rfl, ?_⟩
            refine iteT ?_
            obtain ⟨ya, eya, bya⟩ := hb9 a ha
            rw [hf2] at bya
            obtain ⟨p, qa, wa, rfl, ep, eqa, lwa⟩ := bya
            obtain ⟨yb, eyb, byb⟩ := hb9 (a + 1 + s) hbl
            refine ⟨_, rfl, _, rfl, B, _, _, _, rfl, rfl, SqL.of eb9, atI_nat eya, p, _, 0, _, rfl, rfl, SqT.of ep, rfl, _, rfl, _, _, rfl, rfl, ?_⟩
            refine ⟨_, rfl, _, rfl, pl, ps, _, _, rfl, rfl, SqL.of (k19 _ _ e1), atI_nat exb, by show 1 ≤ sizeLine; decide, fun t1 nt1 => ?_⟩
            have k10 := same_upd (o := .tup [V.ref bb]) (Same.refl H9) nt1
            have et1 : upd H9 t1 (.tup [V.ref bb]) t1 = some (.tup [V.ref bb]) := upd_same
            generalize upd H9 t1 (.tup [V.ref bb]) = H10 at k10 et1
            have lwal := lwa.1
            have dn2 : ∀ v t, g2 v = some t → t < v := B2.dn fun r hr => by
              rcases hr with h | ⟨s', h1, h2⟩
              · exact up r h.1
              · have := arcAt_is h2; omega
            have rl := Rw_len dn2 a a (Nat.le_refl _)
            rw [List.length_map] at lwal
            refine ⟨_, rfl, _, rfl, B, _, _, _, rfl, rfl, SqL.of (k10 _ _ eb9), atI_nat eya, p, _, 1, _, rfl, rfl, SqT.of (k10 _ _ ep), rfl, catA_any et1 (k10 _ _ eqa) (by show 1 + wa.length ≤ _; exact Nat.le_of_lt (szN (by omega))) fun qc H11 k11 eqc => ⟨by show 2 ≤ sizeLine; decide, fun nw nnw => ?_⟩⟩
            have k12 := same_upd (o := .tup [V.int ((x0 : Int) + (c : Int)), V.ref qc]) (Same.refl H11) nnw
            have enw : upd H11 nw (.tup [V.int ((x0 : Int) + (c : Int)), V.ref qc]) nw = some (.tup [nV (x0 + c), V.ref qc]) := upd_same
            generalize upd H11 nw (.tup [V.int ((x0 : Int) + (c : Int)), V.ref qc]) = H12 at k12 enw
            have k912 := (k10.trans k11).trans k12
            have eb12 := k912 _ _ eb9
            have eqc12 := k12 _ _ eqc
            have gbq : atQ S Z (a + 1 + s) = py := getD_of gy
            have lnew : LV (FgV H12) ([V.ref bb] ++ wa) (((a + 1 + s) :: Rw g2 a).map (atQ S Z)) := by
              refine LV.app (rs := [atQ S Z (a + 1 + s)]) (LV.snoc LV.nil ⟨bb, rfl, ?_⟩) (lwa.mono fun _ _ z => z.same k912)
              rw [gbq]
              exact k912 _ _ (k19 _ _ ebb)
            have k112 := k19.trans k912
            have hb12 : ∀ j, j < (posL S Z).length → ∃ y, bs2[j]? = some y ∧ BeP S Z H12 y (f2 j) (Rw g2 j) := fun j hj => by
              obtain ⟨y, e, h⟩ := hb9 j hj
              exact ⟨y, e, h.tk (same_tup k912)⟩
            have tl2 : ∀ v t, g2 v = some t → t < a + 1 + s := fun v t e => by
              obtain ⟨c', hc⟩ := bd_tail B2 e
              have := prI_le hc
              have : t ≤ a := this
              omega
            have hpr : ∀ r, PrI M L S Z a s r → r.1 ≤ a := fun r h => prI_le h
            have ea : arcAt M L S Z a (a + 1 + s) = some (a, a + 1 + s, c) := ea
            have fin : (∀ y, f2 (a + 1 + s) = some y → x0 + c < y) → ∃ (x6 x7 x8 : Option V) (f2' g2' : Nat → Option Nat), [some (nV M), some (nV L), some (V.ref sa), some (.ref pl), some (.ref B), some (nV a), some (nV (a + 1 + s)), some (nV c), some (.ref nw), none] = [some (nV M), some (nV L), some (V.ref sa), some (.ref pl), some (.ref B), some (nV a), x6, x7, x8, none] ∧ Same H1 (upd H12 B (.lst (bs2.set (a + 1 + s) (.ref nw)))) ∧ BsP S Z (upd H12 B (.lst (bs2.set (a + 1 + s) (.ref nw)))) B f2' g2' ∧ f2' a = some x0 ∧ Bd (PrI M L S Z a (s + 1)) f2' g2' := fun lo =>
              ⟨_, _, _, _, _, rfl, same_mut k112 nB1, BsP.put eb12 lb2 hb12 hbl (by omega) tl2 dn2 enw eqc12 lnew, by rw [fset_ne (by omega)]; exact hf2, (B2.put hpr (by omega) hf2 lo).congr (prI_some ea)⟩
            cases hfb : f2 (a + 1 + s) with
            | none =>
              rw [hfb] at byb
              have byb : yb = .non := byb
              subst byb
              refine ⟨_, rfl, _, rfl, B, _, _, _, rfl, rfl, SqL.of eb12, atI_nat eyb, rfl, _, rfl, ?_⟩
              refine iteT ?_
              refine iteT ?_
              refine ⟨_, rfl, _, rfl, _, rfl, B, bs2, _, _, rfl, rfl, eb12, ixN_nat (j := a + 1 + s) (by omega), ?_⟩
              exact fin fun y h => by rw [hfb] at h; cases h
            | some yo =>
              rw [hfb] at byb
              obtain ⟨p2, q2, w2, rfl, ep2, eq2, lw2⟩ := byb
              refine ⟨_, rfl, _, rfl, B, _, _, _, rfl, rfl, SqL.of eb12, atI_nat eyb, rfl, _, rfl, ?_⟩
              refine iteF ?_
              refine ⟨_, rfl, _, rfl, _, rfl, B, _, _, _, rfl, rfl, SqL.of eb12, atI_nat eyb, dWy (x0 + c) (((a + 1 + s) :: Rw g2 a).map (atQ S Z)), dWy yo ((Rw g2 (a + 1 + s)).map (atQ S Z)), dp_wy enw eqc12 lnew, dp_wy (k912 _ _ ep2) (k912 _ _ eq2) (lw2.mono fun _ _ z => z.same k912), al_wy _ _ _ _, (fun z => by cases z), Nat.le_trans (Nat.min_le_left _ _) (dep_wy _ _), ?_⟩
              by_cases lt : x0 + c < yo
              · rw [lt_wy_less lt]
                refine ⟨_, rfl, ?_⟩
                refine iteT ?_
                refine ⟨_, rfl, _, rfl, _, rfl, B, bs2, _, _, rfl, rfl, eb12, ixN_nat (j := a + 1 + s) (by omega), ?_⟩
                exact fin fun y h => by rw [hfb] at h; have := Option.some.inj h; omega
              · have hno : PySem.W.dataLt (dWy (x0 + c) (((a + 1 + s) :: Rw g2 a).map (atQ S Z))) (dWy yo ((Rw g2 (a + 1 + s)).map (atQ S Z))) = false := by
                  by_cases c2 : yo < x0 + c
                  · exact lt_wy_more c2
                  · have ey : yo = x0 + c := by omega
                    subst ey
                    obtain ⟨u0, c0, z0, g1', g2', g3', _⟩ := B2.s (a + 1 + s) _ (by omega) hfb
                    have hu : u0 < a := by
                      rcases g2' with h | ⟨s', h1, h2⟩
                      · exact h.2
                      · have := (arcAt_is h2).2
                        have : a + 1 + s = a + 1 + s' := this
                        omega
                    rw [Rw_some dn2 g1']
                    obtain ⟨r1, er1⟩ := Rw_head g2 a
                    obtain ⟨r2, er2⟩ := Rw_head g2 u0
                    rw [er1, er2]
                    refine lt_wy_later ?_
                    have h := List.pairwise_iff_getElem.mp (pos_asc S Z) u0 a (by omega) ha hu
                    rw [show (posL S Z)[u0] = atQ S Z u0 from (getD_of (List.getElem?_eq_getElem (by omega))).symm, show (posL S Z)[a] = atQ S Z a from (getD_of (List.getElem?_eq_getElem ha)).symm] at h
                    exact h
                rw [hno]
                refine ⟨_, rfl, ?_⟩
                refine iteF ?_
                exact ⟨_, _, _, f2, g2, rfl, k112, ⟨bs2, eb12, lb2, hb12⟩, hf2, (B2.skip hpr (by omega) hf2 hfb (by omega)).congr (prI_some ea)⟩
          · rw [if_neg cM]
            rw [if_neg cM] at ea
            refine ⟨_, rfl, rfl, _, rfl, ?_⟩
            refine iteT ?_
            refine ⟨_, rfl, _, rfl, pl, ps, _, _, rfl, rfl, SqL.of (k19 _ _ e1), atI_nat exb, bb, _, 1, _, rfl, rfl, SqT.of (k19 _ _ ebb), rfl, rfl, _, rfl, ?_⟩
            refine ifD (fun c0 => ?_) (fun c0 => ?_)
            · have c0 : py.2 = 0 := Int.ofNat.inj (V.int.inj c0)
              have gbq : atQ S Z (a + 1 + s) = py := getD_of gy
              exact ⟨_, _, _, _, f2, g2, rfl, k19, ⟨bs2, eb9, lb2, hb9⟩, B2.congr fun r => prI_end ha (fun s' h1 h2 => arc_far h2 h1 ea (by rw [gbq]; exact c0)) (by omega) r⟩
            · refine ⟨_, rfl, rfl, _, rfl, ?_⟩
              refine iteF ?_
              exact ⟨_, _, _, f2, g2, rfl, k19, ⟨bs2, eb9, lb2, hb9⟩, hf2, B2.congr (prI_none ea)⟩
        · rintro σ' H8 ⟨x6, x7, x8, f2, g2, rfl, k8, bs8, hf2, B2⟩
          refine ⟨_, _, _, _, f2, g2, rfl, k8, bs8, B2.congr fun r => prI_end ha (fun s' h1 h2 => by omega) (Nat.le_refl _) r⟩
    · rintro σ' H7 ⟨x5, x6, x7, x8, f1, g1, rfl, k7, ⟨bs, eb7, lb, hb⟩, B1⟩
      have B2 : Bd (· ∈ netQ M L S Z) f1 g1 := B1.congr fun r => ⟨fun h => ⟨h, by have := netQ_up r h; omega⟩, fun h => h.1⟩
      obtain ⟨rfl, rfl⟩ := bd_eq B2 bd up
      obtain ⟨y, ey, by_⟩ := hb ((posL S Z).length - 1) (by omega)
      have ga : atI bs (-1) = some y := at_lastT (n := (posL S Z).length - 1) (by omega) ey
      have nBH : H B = none := Same.free k1 nB1
      unfold DueW at q
      cases hf : f1 ((posL S Z).length - 1) with
      | none =>
        rw [hf] at by_ q
        have by_ : y = .non := by_
        subst by_
        exact ⟨_, rfl, 1, rfl, B, _, -1, _, rfl, rfl, SqL.of eb7, ga, rfl, _, rfl, q H7 _ (k1.trans k7) rfl⟩
      | some x0 =>
        rw [hf] at by_ q
        obtain ⟨p, qa, wa, rfl, ep, eqa, lwa⟩ := by_
        refine ⟨_, rfl, 1, rfl, B, _, -1, _, rfl, rfl, SqL.of eb7, ga, rfl, _, rfl, ?_⟩
        refine ⟨_, rfl, 1, rfl, B, _, -1, _, rfl, rfl, SqL.of eb7, ga, p, _, 1, _, rfl, rfl, SqT.of ep, rfl, qa, _, rfl, .inr (SqT.of eqa), fun W nW => ?_⟩
        have k8 := same_upd (o := .lst wa) (Same.refl H7) nW
        have eW : upd H7 W (.lst wa) W = some (.lst wa) := upd_same
        have nW1 : H W = none := Same.free (k1.trans k7) nW
        generalize upd H7 W (.lst wa) = H8 at k8 eW
        refine ⟨.ref W, rfl, .inl ⟨rfl, _, .inl (.inl eW)⟩, W, _, rfl, rfl, eW, ?_⟩
        have kt := kt_mut (zs := wa.reverse) eW
        have k9 := same_mut (o := .lst wa.reverse) ((k1.trans k7).trans k8) nW1
        have eW9 : upd H8 W (.lst wa.reverse) W = some (.lst wa.reverse) := upd_same
        have lw9 : LV (FgV (upd H8 W (.lst wa.reverse))) wa.reverse ((Rw g1 ((posL S Z).length - 1)).reverse.map (atQ S Z)) := by
          rw [List.map_reverse]
          exact LV.rev (lwa.mono fun _ _ z => (z.same k8).kt kt)
        generalize upd H8 W (.lst wa.reverse) = H9 at k9 eW9 lw9
        refine ⟨_, rfl, W, _, rfl, .inl ⟨SqL.of eW9, fun t nt => ?_⟩⟩
        exact q _ _ (same_upd k9 nt) ⟨t, rfl, _, upd_same, lw9.mono fun _ _ z => z.kt (kt_new nt)⟩
end
end Vf

set_option Elab.async false
set_option linter.all false
set_option maxRecDepth 100000
set_option maxHeartbeats 4000000
namespace Vf
open PySem PySem.Spec PyProof.Rows L2 TL
/-! ### strips -/
abbrev Stp := List Nat × List Nat × List (List Int)
def TrV (H : Hp) (x : V) (r : List Int) : Prop := ∃ b, x = .ref b ∧ H b = some (.tup (r.map V.int)) ∧ r.length = 5
theorem TrV.kt {H H' : Hp} {x : V} {r : List Int} (h : TrV H x r) (k : ∀ a xs, H a = some (.tup xs) → H' a = some (.tup xs)) : TrV H' x r := by
  obtain ⟨b, e, h1, h2⟩ := h
  exact ⟨b, e, k _ _ h1, h2⟩
def StpV (H : Hp) (x : V) (s : Stp) : Prop := ∃ b t us, x = .ref b ∧ H b = some (.tup [sV s.1, sV s.2.1, .ref t]) ∧ H t = some (.tup us) ∧ LV (TrV H) us s.2.2
theorem StpV.kt {H H' : Hp} {x : V} {s : Stp} (h : StpV H x s) (k : ∀ a xs, H a = some (.tup xs) → H' a = some (.tup xs)) : StpV H' x s := by
  obtain ⟨b, t, us, e, h1, h2, h3⟩ := h
  exact ⟨b, t, us, e, k _ _ h1, k _ _ h2, h3.mono fun _ _ z => z.kt k⟩
def plainS (zs : List Nat) : Stp := (zs, List.replicate zs.length 32, [])
def blankS (n : Nat) : Stp := plainS (List.replicate n 32)
def shT (l : Int) : List Int → List Int
  | a :: r => (l + a) :: r
  | [] => []
def trsS : Nat → List Stp → List (List Int)
  | _, [] => []
  | l, s :: r => s.2.2.map (shT (l : Int)) ++ trsS (l + s.1.length) r
def jnS (ss : List Stp) : Stp := (ss.flatMap (·.1), ss.flatMap (·.2.1), trsS 0 ss)
/-- the signs of the piece from the k-th parting to the m-th (0: to the end) -/
def pcN (S : Sty) (z : List Nat) (k m : Nat) : List Nat := pieceN S z (eA S z k) (eA S z (if m = 0 then nP S z + 1 else m))
theorem pcN_len {S : Sty} (ok : StyOk S) (z : List Nat) (k m : Nat) : (pcN S z k m).length = pcW S z k m := pieceN_len ok _ _ _
def pieceS (S : Sty) (z : List Nat) (q k m : Nat) : Stp := if q = 0 then plainS (pcN S z k m) else (pcN S z k m, List.replicate (pcN S z k m).length 35, [[0, ((pcN S z k m).length : Int), (q : Int), (k : Int), (m : Int)]])
theorem blk_mk : ((" " : Str)) = mkS [32] := by decide +kernel
theorem cvr_mk : (("#" : Str)) = mkS [35] := by decide +kernel
theorem trs_take {ss : List Stp} : ∀ (l n : Nat) (s : Stp), ss[n]? = some s → trsS l (ss.take (n + 1)) = trsS l (ss.take n) ++ s.2.2.map (shT ((l + ((ss.take n).flatMap (·.1)).length : Nat) : Int)) := by
  induction ss with
  | nil => intro l n s h; cases h
  | cons a ss ih =>
    intro l n s h
    cases n with
    | zero =>
      have h : a = s := Option.some.inj h
      subst h
      show a.2.2.map (shT (l : Int)) ++ [] = [] ++ a.2.2.map _
      rw [List.append_nil, List.nil_append]; rfl
    | succ n =>
      have h : ss[n]? = some s := h
      show a.2.2.map (shT (l : Int)) ++ trsS (l + a.1.length) (ss.take (n + 1)) = (a.2.2.map (shT (l : Int)) ++ trsS (l + a.1.length) (ss.take n)) ++ _
      rw [ih _ _ _ h, List.append_assoc, List.take_succ_cons, List.flatMap_cons, List.length_append, Nat.add_assoc]
theorem eA_mid {S : Sty} {z : List Nat} {k : Nat} (h0 : 0 < k) (h : k ≤ nP S z) : ∃ r, (places S z)[k - 1]? = some r ∧ r.1 = eA S z k := by
  have hk : k - 1 < (places S z).length := by unfold nP at h; omega
  have e : (places S z)[k - 1]? = some (places S z)[k - 1] := List.getElem?_eq_getElem hk
  refine ⟨_, e, ?_⟩
  have := ends_part e
  rw [show k - 1 + 1 = k by omega] at this
  unfold eA
  rw [List.getD_eq_getElem?_getD, this]; rfl
theorem mul_ok {z : Str} {n : Int} (h2 : 2 ≤ n) (hn : n ≤ 1000) (hz : z.length ≤ 10000) : MulOk z n := by
  refine ⟨?_, fun _ _ => ?_, fun _ _ => ?_⟩
  · rw [decide_eq_false (by omega), decide_eq_false (by omega)]; rfl
  · have h3 : (9000000 : Int) ≤ (2 ^ 63 - 1) / n := (Int.le_ediv_iff_mul_le (by omega)).mpr (by omega)
    omega
  · have e : n.toNat ≤ 1000 := by omega
    have h4 : z.length * n.toNat ≤ 10000 * 1000 := Nat.mul_le_mul hz e
    show decide (sizeLine < z.length * n.toNat) = false
    exact decide_eq_false (Nat.not_lt.mpr (Nat.le_trans h4 (by decide)))
theorem mul_okN {z : Str} {n : Nat} (hn : n ≤ 1000) (hz : z.length ≤ 10000) : MulOk z (n : Int) := by
  by_cases h : 2 ≤ n
  · exact mul_ok (by omega) (by omega) hz
  · refine ⟨?_, fun h1 h2 => ?_, fun h1 h2 => ?_⟩
    · rw [decide_eq_false (by omega), decide_eq_false (by omega)]; rfl
    · have e : n = 1 := by omega
      subst e
      cases h2
    · have e : n = 1 := by omega
      subst e
      cases h2
theorem mul_ok1 {z : Str} {n : Nat} (hn : n ≤ 20000) (hz : z.length ≤ 100) : MulOk z (n : Int) := by
  by_cases h : 2 ≤ n
  · refine ⟨?_, fun _ _ => ?_, fun _ _ => ?_⟩
    · rw [decide_eq_false (by omega), decide_eq_false (by omega)]; rfl
    · have h3 : (900000 : Int) ≤ (2 ^ 63 - 1) / (n : Int) := (Int.le_ediv_iff_mul_le (by omega)).mpr (by omega)
      omega
    · have h4 : z.length * (n : Int).toNat ≤ 100 * 20000 := Nat.mul_le_mul hz (by omega)
      show decide (sizeLine < z.length * (n : Int).toNat) = false
      exact decide_eq_false (Nat.not_lt.mpr (Nat.le_trans h4 (by decide)))
  · exact mul_okN (by omega) (by omega)
theorem foldl_reps (zs : List Nat) : ∀ (n : Nat) (acc : Array Nat), (((List.replicate n zs.toArray).foldl (· ++ ·) acc)).toList = acc.toList ++ (List.replicate n zs).flatten
  | 0, acc => by rw [List.replicate_zero, List.replicate_zero, List.flatten_nil, List.append_nil]; rfl
  | n + 1, acc => by
    rw [List.replicate_succ, List.replicate_succ, List.foldl_cons, foldl_reps zs n, List.flatten_cons, Array.toList_append, List.append_assoc]
theorem mul_mk (zs : List Nat) (hz : zs ≠ []) (n : Nat) : Txt.mul (mkS zs) (n : Int) = mkS (List.replicate n zs).flatten := by
  unfold Txt.mul
  by_cases h0 : n = 0
  · subst h0
    rw [if_pos (by decide), List.replicate_zero, List.flatten_nil]
    rfl
  · rw [if_neg (by omega)]
    have hl : ((mkS zs).length == 0) = false := by
      rw [mkS_len]
      refine beq_eq_false_iff_ne.mpr fun e => hz ?_
      exact List.eq_nil_of_length_eq_zero e
    rw [hl, Bool.or_false]
    by_cases h1 : n = 1
    · subst h1
      rw [if_pos (show (((1 : Nat) : Int) == 1) = true from rfl)]
      show mkS zs = mkS (zs ++ [])
      rw [List.append_nil]
    · rw [if_neg (fun q => h1 (by have := beq_iff_eq.mp q; omega)), Int.toNat_natCast]
      have e := foldl_reps zs n #[]
      have e2 : ((List.replicate n (mkS zs).cps).foldl (· ++ ·) #[]).toList = (List.replicate n zs).flatten := e
      show (⟨_⟩ : Str) = ⟨_⟩
      congr 1
      rw [← e2, Array.toArray_toList]
theorem flat_one1 (c n : Nat) : (List.replicate n [c]).flatten = List.replicate n c := by
  induction n with
  | zero => rfl
  | succ n ih => rw [List.replicate_succ, List.flatten_cons, ih, List.replicate_succ]; rfl
theorem mul_sign (c n : Nat) : Txt.mul (mkS [c]) (n : Int) = mkS (List.replicate n c) := by
  rw [mul_mk [c] (by simp) n, flat_one1]
theorem ek_at {S : Sty} {z : List Nat} {k : Nat} (h1 : 0 < k) (h2 : k ≤ nP S z) : atI ((places S z).map fun r : Nat × Nat => natV r.1) ((k : Int) - 1) = some (nV (eA S z k)) := by
  obtain ⟨r, e1, e2⟩ := eA_mid h1 h2
  rw [show (k : Int) - 1 = ((k - 1 : Nat) : Int) by omega]
  refine atI_nat ?_
  rw [List.getElem?_map, e1, ← e2]; rfl
def tFst : TE := fun σ H Q => ∃ (S : Sty) (z : List Nat) (k : Nat) (D : Addr), σ[2]? = some (some (nV k)) ∧ σ[4]? = some (some (.ref D)) ∧ H D = some (.lst ((places S z).map fun r : Nat × Nat => natV r.1)) ∧ k ≤ nP S z ∧ Q (nV (eA S z k)) H
theorem fst_ok {K : PySem.W.Frag} {σ : L2.St} {H : Hp} {Q : VK} {S : Sty} {z : List Nat} {k : Nat} {D : Addr} (e2 : σ[2]? = some (some (nV k))) (e4 : σ[4]? = some (some (.ref D))) (eD : H D = some (.lst ((places S z).map fun r : Nat × Nat => natV r.1))) (hk : k ≤ nP S z) (q : Q (nV (eA S z k)) H) :
    tIf (tTest (tOp (rI0 fun i j => V.bl (decide (j < i))) (tVar 2) (tC (V.int 0)))) (tOp (rIxL K) (tVar 4) (tOp (rI0 fun i j => V.int (i - j)) (tVar 2) (tC (V.int 1)))) (tC (V.int 0)) σ H Q := by
  refine ⟨_, e2, _, _, rfl, rfl, _, rfl, ?_⟩
  refine ifD (fun c => ?_) (fun c => ?_)
  · have c : (0 : Int) < (k : Int) := c
    exact ⟨_, e4, _, e2, _, _, rfl, rfl, D, _, _, _, rfl, rfl, SqL.of eD, ek_at (by omega) hk, q⟩
  · have c : ¬ (0 : Int) < (k : Int) := c
    have : k = 0 := by omega
    subst this
    exact q
def tLst : TE := fun σ H Q => ∃ (S : Sty) (z : List Nat) (m : Nat) (D : Addr), σ[1]? = some (some (sV z)) ∧ σ[3]? = some (some (nV m)) ∧ σ[4]? = some (some (.ref D)) ∧ H D = some (.lst ((places S z).map fun r : Nat × Nat => natV r.1)) ∧ (mkS z).length ≤ sizeLine ∧ m ≤ nP S z ∧ Q (nV (eA S z (if m = 0 then nP S z + 1 else m))) H
theorem lst_ok {K : PySem.W.Frag} {σ : L2.St} {H : Hp} {Q : VK} {S : Sty} {z : List Nat} {m : Nat} {D : Addr} (e1 : σ[1]? = some (some (sV z))) (e3 : σ[3]? = some (some (nV m))) (e4 : σ[4]? = some (some (.ref D))) (eD : H D = some (.lst ((places S z).map fun r : Nat × Nat => natV r.1))) (hb : (mkS z).length ≤ sizeLine) (hm : m ≤ nP S z) (q : Q (nV (eA S z (if m = 0 then nP S z + 1 else m))) H) :
    tIf (tTest (tOp (rI0 fun i j => V.bl (decide (j < i))) (tVar 3) (tC (V.int 0)))) (tOp (rIxL K) (tVar 4) (tOp (rI0 fun i j => V.int (i - j)) (tVar 3) (tC (V.int 1)))) (tCB (fun xs H Q => ∃ z, xs = [V.str z] ∧ z.length ≤ sizeLine ∧ Q (V.int (z.length : Nat)) H) (tCons (tVar 1) tNil)) σ H Q := by
  refine ⟨_, e3, _, _, rfl, rfl, _, rfl, ?_⟩
  refine ifD (fun c => ?_) (fun c => ?_)
  · have c : (0 : Int) < (m : Int) := c
    rw [if_neg (show ¬ m = 0 by omega)] at q
    exact ⟨_, e4, _, e3, _, _, rfl, rfl, D, _, _, _, rfl, rfl, SqL.of eD, ek_at (by omega) hm, q⟩
  · have c : ¬ (0 : Int) < (m : Int) := c
    rw [if_pos (show m = 0 by omega), eA_end] at q
    refine ⟨_, e1, _, rfl, hb, ?_⟩
    rw [mkS_len]; exact q
section
variable {P : Program} {w : World} {K : PySem.W.Frag} {mg : Str → Option Value} {base : Heap}
def spSignsB : Sp := fun vs H Q _ => ∃ (v : V) (S : Sty) (z : List Nat) (k m : Nat), vs = [v, sV z, nV k, nV m] ∧ StyV H v S ∧ StyOk S ∧ WdOk z ∧ 0 < z.length ∧ k ≤ nP S z ∧ m ≤ nP S z ∧ (m = 0 ∨ k < m) ∧
  ∀ H', Same H H' → Q (sV (pcN S z k m)) H'
theorem ok_signsB (T : Txt K mg) : FnOk P w K mg base CX0 5 T.a_signs_between T.d_signs_between ["style", "word", "first", "last"] spSignsB := by
  have G_parting_places : FnOk P w K mg base CX0 3 T.a_parting_places T.d_parting_places ["style", "word"] spPlacesOf := ok_parting_places T
  have G_signs_of : FnOk P w K mg base CX0 4 T.a_signs_of T.d_signs_of ["style", "word", "first", "behind"] spSignsOf := ok_signs_of T
  refine T.D_signs_between.F.ok sc_signs_between (fun vs H Q E h => ?_) (fun cdv A outer s H vs Q E hr h => ?_)
  · obtain ⟨_, _, _, _, _, rfl, _⟩ := h
    rfl
  · obtain ⟨v, S, z, k, m, rfl, sv, st, wd, h0, hk, hm, hkm, q⟩ := h
    have hb : (mkS z).length ≤ sizeLine := by rw [mkS_len]; exact big_ok (by have := wd.len; omega)
    refine ⟨_, (pss_cons (ps_set (i := 4) sc_signs_between.nd rfl (.inl rfl) (pe_call G_parting_places (hr.mono (by decide)) (by rfl) T.D_parting_places.G T.D_parting_places.F.kp T.D_parting_places.B .nil pass0 (pa_cons (pv 0) (pa_cons (pv 1) pa_nil))))
      (pss_one (ps_ret (pe_call G_signs_of (hr.mono (by decide)) (by rfl) T.D_signs_of.G T.D_signs_of.F.kp T.D_signs_of.B .nil pass0 (pa_cons (pv 0) (pa_cons (pv 1) (pa_cons (PE.to (t' := tFst) (pe_ifExp (pt_cmpR op_gt (pv 2) pe_int (nomark _)) (pe_ix ix_list (pv 4) (pe_op op_sub (pv 2) pe_int) (fun _ _ => rfl)) pe_int) (fun σ H Q h => by
      obtain ⟨S, z, k, D, e2, e4, eD, hk, q⟩ := h
      exact fst_ok e2 e4 eD hk q)) (pa_cons (PE.to (t' := tLst) (pe_ifExp (pt_cmpR op_gt (pv 3) pe_int (nomark _)) (pe_ix ix_list (pv 4) (pe_op op_sub (pv 3) pe_int) (fun _ _ => rfl)) (pe_callB call_len_str (by rfl) T.n_len PySem.boot_len (pa_cons (pv 1) pa_nil))) (fun σ H Q h => by
      obtain ⟨S, z, m, D, e1, e3, e4, eD, hb, hm, q⟩ := h
      exact lst_ok e1 e3 e4 eD hb hm q)) pa_nil)))))))), ?_⟩
    refine ⟨_, rfl, _, rfl, v, S, z, rfl, sv, st, wd, fun H1 D k1 nD eD => ?_⟩
    refine ⟨_, rfl, _, rfl, S, z, k, D, rfl, rfl, eD, hk, S, z, m, D, rfl, rfl, rfl, eD, hb, hm, ?_⟩
    have h1 : eA S z k ≤ eA S z (if m = 0 then nP S z + 1 else m) := by
      by_cases c : m = 0
      · rw [if_pos c]; exact Nat.le_of_lt (eA_lt h0 (by omega) (Nat.le_refl _))
      · rw [if_neg c]; exact Nat.le_of_lt (eA_lt h0 (by omega) (by omega))
    exact ⟨v, S, z, eA S z k, eA S z (if m = 0 then nP S z + 1 else m), rfl, sv.mono (same_tup k1), st, wd, h1, eA_le, fun H2 k2 => q H2 (k1.trans k2)⟩
def spPlain : Sp := fun vs H Q _ => ∃ (zs : List Nat), vs = [sV zs] ∧ zs.length ≤ 20000 ∧ ∀ H' x, Same H H' → StpV H' x (plainS zs) → Q x H'
theorem ok_plain (T : Txt K mg) : FnOk P w K mg base CX0 1 T.a_plain_strip T.d_plain_strip ["signs"] spPlain := by
  refine T.D_plain_strip.F.ok sc_plain_strip (fun vs H Q E h => ?_) (fun cdv A outer s H vs Q E hr h => ?_)
  · obtain ⟨_, rfl, _⟩ := h
    rfl
  · obtain ⟨zs, rfl, hz, q⟩ := h
    refine ⟨_, (pss_one (ps_ret (pe_tup (pa_cons (pv 0) (pa_cons (pe_op op_mul_str (pe_glob (v := .str " ") (by rfl) T.m_BLANK ⟨_, rfl⟩) (pe_callB call_len_str (by rfl) T.n_len PySem.boot_len (pa_cons (pv 0) pa_nil))) (pa_cons (pe_tup pa_nil) pa_nil)))))), ?_⟩
    refine ⟨_, rfl, _, rfl, _, rfl, by rw [mkS_len]; exact big_ok (by omega), " ", ((mkS zs).length : Int), rfl, rfl, by rw [mkS_len]; exact mul_ok1 hz (by decide), ?_⟩
    rw [blk_mk, mkS_len, mul_sign]
    refine ⟨by show 0 ≤ sizeLine; decide, fun t nt => ⟨by show 3 ≤ sizeLine; decide, fun b nb => ?_⟩⟩
    exact q _ (.ref b) (same_upd (same_upd (Same.refl H) nt) nb) ⟨b, t, [], rfl, upd_same, by rw [upd_ne (ne_of_none upd_same nb)]; exact upd_same, LV.nil⟩
def spBlank : Sp := fun vs H Q _ => ∃ (n : Nat), vs = [nV n] ∧ n ≤ 20000 ∧ ∀ H' x, Same H H' → StpV H' x (blankS n) → Q x H'
theorem ok_blank (T : Txt K mg) : FnOk P w K mg base CX0 2 T.a_blank_strip T.d_blank_strip ["width"] spBlank := by
  have G_plain_strip : FnOk P w K mg base CX0 1 T.a_plain_strip T.d_plain_strip ["signs"] spPlain := ok_plain T
  refine T.D_blank_strip.F.ok sc_blank_strip (fun vs H Q E h => ?_) (fun cdv A outer s H vs Q E hr h => ?_)
  · obtain ⟨_, rfl, _⟩ := h
    rfl
  · obtain ⟨n, rfl, hn, q⟩ := h
    refine ⟨_, (pss_one (ps_ret (pe_call G_plain_strip (hr.mono (by decide)) (by rfl) T.D_plain_strip.G T.D_plain_strip.F.kp T.D_plain_strip.B .nil pass0 (pa_cons (pe_op op_mul_str (pe_glob (v := .str " ") (by rfl) T.m_BLANK ⟨_, rfl⟩) (pv 0)) pa_nil)))), ?_⟩
    refine ⟨_, rfl, " ", (n : Int), rfl, rfl, mul_ok1 hn (by decide), ?_⟩
    rw [blk_mk, mul_sign]
    exact ⟨List.replicate n 32, rfl, by rw [List.length_replicate]; exact hn, q⟩
def spPiece : Sp := fun vs H Q _ => ∃ (v : V) (S : Sty) (z : List Nat) (s k m : Nat), vs = [v, sV z, nV s, nV k, nV m] ∧ StyV H v S ∧ StyOk S ∧ WdOk z ∧ 0 < z.length ∧ k ≤ nP S z ∧ m ≤ nP S z ∧ (m = 0 ∨ k < m) ∧
  ∀ H' x, Same H H' → StpV H' x (pieceS S z s k m) → Q x H'
theorem ok_piece (T : Txt K mg) : FnOk P w K mg base CX0 6 T.a_piece_strip T.d_piece_strip ["style", "word", "struck", "first", "last"] spPiece := by
  have G_signs_between : FnOk P w K mg base CX0 5 T.a_signs_between T.d_signs_between ["style", "word", "first", "last"] spSignsB := ok_signsB T
  have G_plain_strip : FnOk P w K mg base CX0 1 T.a_plain_strip T.d_plain_strip ["signs"] spPlain := ok_plain T
  refine T.D_piece_strip.F.ok sc_piece_strip (fun vs H Q E h => ?_) (fun cdv A outer s H vs Q E hr h => ?_)
  · obtain ⟨_, _, _, _, _, _, rfl, _⟩ := h
    rfl
  · obtain ⟨v, S, z, s, k, m, rfl, sv, st, wd, h0, hk, hm, hkm, q⟩ := h
    have l100 : (pcN S z k m).length ≤ 100 := pieceW_small st _ _ wd eA_le
    have hb : (mkS (pcN S z k m)).length ≤ sizeLine := by rw [mkS_len]; exact big_ok (by omega)
    refine ⟨_, (pss_cons (ps_set (i := 5) sc_piece_strip.nd rfl (.inl rfl) (pe_call G_signs_between (hr.mono (by decide)) (by rfl) T.D_signs_between.G T.D_signs_between.F.kp T.D_signs_between.B .nil pass0 (pa_cons (pv 0) (pa_cons (pv 1) (pa_cons (pv 3) (pa_cons (pv 4) pa_nil))))))
      (pss_cons (ps_if (pt_cmpR op_eq (pv 2) pe_int (nomark _)) (pss_one (ps_ret (pe_call G_plain_strip (hr.mono (by decide)) (by rfl) T.D_plain_strip.G T.D_plain_strip.F.kp T.D_plain_strip.B .nil pass0 (pa_cons (pv 5) pa_nil)))) pss_nil)
      (pss_one (ps_ret (pe_tup (pa_cons (pv 5) (pa_cons (pe_op op_mul_str (pe_glob (v := .str "#") (by rfl) T.m_COVER ⟨_, rfl⟩) (pe_callB call_len_str (by rfl) T.n_len PySem.boot_len (pa_cons (pv 5) pa_nil))) (pa_cons (pe_tup (pa_cons (pe_tup (pa_cons pe_int (pa_cons (pe_callB call_len_str (by rfl) T.n_len PySem.boot_len (pa_cons (pv 5) pa_nil)) (pa_cons (pv 2) (pa_cons (pv 3) (pa_cons (pv 4) pa_nil)))))) pa_nil)) pa_nil)))))))), ?_⟩
    refine ⟨_, rfl, _, rfl, _, rfl, _, rfl, v, S, z, k, m, rfl, sv, st, wd, h0, hk, hm, hkm, fun H1 k1 => ?_⟩
    refine ⟨_, rfl, rfl, _, rfl, ?_⟩
    unfold pieceS at q
    refine ifD (fun c => ?_) (fun c => ?_)
    · have c : s = 0 := Int.ofNat.inj (V.int.inj c)
      rw [if_pos c] at q
      exact ⟨_, rfl, pcN S z k m, rfl, by omega, fun H2 x k2 hx => q H2 x (k1.trans k2) hx⟩
    · have c : s ≠ 0 := fun z => c (by rw [z]; rfl)
      rw [if_neg c] at q
      refine ⟨_, rfl, _, rfl, _, rfl, hb, "#", ((mkS (pcN S z k m)).length : Int), rfl, rfl, by rw [mkS_len]; exact mul_okN (by omega) (by decide), ?_⟩
      rw [cvr_mk, mkS_len, mul_sign]
      refine ⟨_, rfl, _, rfl, hb, _, rfl, _, rfl, _, rfl, by show 5 ≤ sizeLine; decide, fun a na => ?_⟩
      rw [mkS_len]
      have k2 := same_upd (o := .tup [V.int 0, V.int ((pcN S z k m).length : Nat), nV s, nV k, nV m]) (Same.refl H1) na
      have ea : upd H1 a (.tup [V.int 0, V.int ((pcN S z k m).length : Nat), nV s, nV k, nV m]) a = some (.tup (([0, ((pcN S z k m).length : Int), (s : Int), (k : Int), (m : Int)] : List Int).map V.int)) := upd_same
      generalize upd H1 a (.tup [V.int 0, V.int ((pcN S z k m).length : Nat), nV s, nV k, nV m]) = H2 at k2 ea
      refine ⟨by show 1 ≤ sizeLine; decide, fun t nt => ⟨by show 3 ≤ sizeLine; decide, fun b nb => ?_⟩⟩
      have k3 := same_upd (o := .tup [V.ref a]) (Same.refl H2) nt
      have et : upd H2 t (.tup [V.ref a]) t = some (.tup [V.ref a]) := upd_same
      generalize upd H2 t (.tup [V.ref a]) = H3 at k3 et nb
      have tt := kt_new (o := .tup [sV (pcN S z k m), sV (List.replicate (pcN S z k m).length 35), V.ref t]) nb
      exact q _ (.ref b) (same_upd ((k1.trans k2).trans k3) nb) ⟨b, t, _, rfl, upd_same, tt _ _ et, LV.snoc LV.nil ⟨a, rfl, tt _ _ (k3 _ _ ea), rfl⟩⟩
end
end Vf

set_option Elab.async false
set_option linter.all false
set_option maxRecDepth 100000
set_option maxHeartbeats 4000000
namespace Vf
open PySem PySem.Spec PyProof.Rows L2 TL
theorem trs_app : ∀ (a b : List Stp) (l : Nat), trsS l (a ++ b) = trsS l a ++ trsS (l + (a.flatMap (·.1)).length) b
  | [], b, l => rfl
  | s :: a, b, l => by
    show s.2.2.map (shT (l : Int)) ++ trsS (l + s.1.length) (a ++ b) = (s.2.2.map (shT (l : Int)) ++ trsS (l + s.1.length) a) ++ _
    rw [trs_app a b, List.append_assoc, List.flatMap_cons, List.length_append, Nat.add_assoc]
theorem trs_pre (ss : List Stp) (n : Nat) : (trsS 0 (ss.take n)).length ≤ (trsS 0 ss).length := by
  have h := trs_app (ss.take n) (ss.drop n) 0
  rw [List.take_append_drop] at h
  rw [h, List.length_append]
  exact Nat.le_add_right _ _
theorem flat_pre {α β : Type} (f : α → List β) (ss : List α) (n : Nat) : ((ss.take n).flatMap f).length ≤ (ss.flatMap f).length := by
  have h : (ss.take n).flatMap f ++ (ss.drop n).flatMap f = ss.flatMap f := by rw [← List.flatMap_append, List.take_append_drop]
  rw [← h, List.length_append]
  exact Nat.le_add_right _ _
theorem fl_one {α β : Type} (f : α → List β) {ss : List α} {n : Nat} {s : α} (h : ss[n]? = some s) : (ss.take (n + 1)).flatMap f = (ss.take n).flatMap f ++ f s := by
  rw [show ss.take (n + 1) = ss.take n ++ [s] by rw [List.take_succ, h]; rfl, List.flatMap_append, List.flatMap_cons, List.flatMap_nil, List.append_nil]
theorem flat_le {α β : Type} (f : α → List β) {ss : List α} {n : Nat} {s : α} (h : ss[n]? = some s) : (f s).length ≤ (ss.flatMap f).length := by
  have h1 := flat_pre f ss (n + 1)
  rw [fl_one f h, List.length_append] at h1
  omega
structure JnOk (ss : List Stp) : Prop where
  n : ss.length ≤ 1000
  a : (jnS ss).1.length ≤ 90000
  b : (jnS ss).2.1.length ≤ 90000
  c : (jnS ss).2.2.length ≤ 40000
section
variable {P : Program} {w : World} {K : PySem.W.Frag} {mg : Str → Option Value} {base : Heap}
def spJoined : Sp := fun vs H Q _ => ∃ (L : Addr) (us : List V) (ss : List Stp), vs = [.ref L] ∧ H L = some (.lst us) ∧ LV (StpV H) us ss ∧ JnOk ss ∧ ∀ H' x, Same H H' → StpV H' x (jnS ss) → Q x H'
theorem ok_joined (T : Txt K mg) : FnOk P w K mg base CX0 1 T.a_joined T.d_joined ["strips"] spJoined := by
  refine T.D_joined.F.ok sc_joined (fun vs H Q E h => ?_) (fun cdv A outer s H vs Q E hr h => ?_)
  · obtain ⟨_, _, _, rfl, _⟩ := h
    rfl
  · obtain ⟨L, us, ss, rfl, eL, lv, jk, q⟩ := h
    have ln := jk.n
    have la := jk.a
    have lb := jk.b
    have lc := jk.c
    have lus := lv.1
    refine ⟨_, (pss_cons (ps_set (i := 1) sc_joined.nd rfl (.inl rfl) (pe_lst pa_nil))
      (pss_cons (ps_set (i := 2) sc_joined.nd rfl (.inr rfl) pe_int)
      (pss_cons (ps_for PassesOwn.never rfl (pi_list (pv 0)) (pg_tup (by rfl) (pgs_cons (pg_name (i := 3) sc_joined.nd rfl (.inl rfl)) (pgs_cons (pg_name (i := 4) sc_joined.nd rfl (.inl rfl)) (pgs_cons (pg_name (i := 5) sc_joined.nd rfl (.inl rfl)) pgs_nil)))) (pss_cons (ps_expr (pe_bm PySem.F.plainAttrs_list PySem.F.slot_list_extend PySem.F.type_list_extend mt_extend (pv 1) (pa_cons (pe_lc (own := [("at", 6), ("width", 7), ("struck", 8), ("first", 9), ("last", 10)]) (g := (gTup K 5 (gCons (gName 6) (gCons (gName 7) (gCons (gName 8) (gCons (gName 9) (gCons (gName 10) gNil))))))) (tt := tYes) rfl sc_joined.nd (pi_tup (pv 5)) (blkOk_by (own := [("at", 6), ("width", 7), ("struck", 8), ("first", 9), ("last", 10)]) (N := ["strips", "traces", "left", "signs", "_", "trace", "at", "width", "struck", "first", "last", "strip"]) (sc := (defScope s_joined)) (by decide +kernel)) (fun _ _ _ _ _ => (pg_tup (by rfl) (pgs_cons (pg_name (i := 6) sc_joined.nd rfl (.inl rfl)) (pgs_cons (pg_name (i := 7) sc_joined.nd rfl (.inl rfl)) (pgs_cons (pg_name (i := 8) sc_joined.nd rfl (.inl rfl)) (pgs_cons (pg_name (i := 9) sc_joined.nd rfl (.inl rfl)) (pgs_cons (pg_name (i := 10) sc_joined.nd rfl (.inl rfl)) pgs_nil))))))) (fun _ _ _ _ _ => pts_nil) (fun _ _ _ _ _ => (pe_tup (pa_cons (pe_op op_add (pv 2) (pv 6)) (pa_cons (pv 7) (pa_cons (pv 8) (pa_cons (pv 9) (pa_cons (pv 10) pa_nil)))))))) pa_nil)))
      (pss_one (ps_aug (i := 2) sc_joined.nd rfl (.inr rfl) (pe_callB call_len_str (by rfl) T.n_len PySem.boot_len (pa_cons (pv 3) pa_nil)) ip_add))))
      (pss_one (ps_ret (pe_tup (pa_cons (pe_join pe_str (pe_lc (own := [("strip", 11)]) (g := gName 11) (tt := tYes) rfl sc_joined.nd (pi_list (pv 0)) (blkOk_by (own := [("strip", 11)]) (N := ["strips", "traces", "left", "signs", "_", "trace", "at", "width", "struck", "first", "last", "strip"]) (sc := (defScope s_joined)) (by decide +kernel)) (fun _ _ _ _ _ => (pg_name (i := 11) sc_joined.nd rfl (.inl rfl))) (fun _ _ _ _ _ => pts_nil) (fun _ _ _ _ _ => (pe_ix (r := rIxT K) ix_tup (pv 11) pe_int (fun _ _ => rfl))))) (pa_cons (pe_join pe_str (pe_lc (own := [("strip", 11)]) (g := gName 11) (tt := tYes) rfl sc_joined.nd (pi_list (pv 0)) (blkOk_by (own := [("strip", 11)]) (N := ["strips", "traces", "left", "signs", "_", "trace", "at", "width", "struck", "first", "last", "strip"]) (sc := (defScope s_joined)) (by decide +kernel)) (fun _ _ _ _ _ => (pg_name (i := 11) sc_joined.nd rfl (.inl rfl))) (fun _ _ _ _ _ => pts_nil) (fun _ _ _ _ _ => (pe_ix (r := rIxT K) ix_tup (pv 11) pe_int (fun _ _ => rfl))))) (pa_cons (pe_callTy call_tuple_of (by rfl) T.n_tuple (by decide +kernel) (pa_cons (pv 1) pa_nil)) pa_nil))))))))), ?_⟩
    refine ⟨by show 0 ≤ sizeLine; decide, fun D nD => ?_⟩
    have k1 := same_upd (o := .lst []) (Same.refl H) nD
    have eD : upd H D (.lst []) D = some (.lst []) := upd_same
    generalize upd H D (.lst []) = H1 at k1 eD
    refine ⟨_, rfl, L, rfl, ⟨_, SqL.of (k1 _ _ eL)⟩, ?_⟩
    refine for_it (walk_list (K := K) (a := L) (xs := us)) (fun n σ' H' => ∃ (x3 x4 x5 x6 x7 x8 x9 x10 x11 : Option V) (zs : List V), σ' = [some (.ref L), some (.ref D), some (nV ((ss.take n).flatMap (·.1)).length), x3, x4, x5, x6, x7, x8, x9, x10, x11] ∧ Same H H' ∧ H' D = some (.lst zs) ∧ LV (TrV H') zs (trsS 0 (ss.take n))) ⟨_, _, _, _, _, _, _, _, _, [], rfl, k1, eD, LV.nil⟩ ?_ ?_ ?_
    · rintro i σ1 H' _ ⟨_, _, _, _, _, _, _, _, _, _, _, k, _⟩
      exact SqL.of (k _ _ eL)
    · rintro n x σ1 Ha H2 hn ⟨x3, x4, x5, x6, x7, x8, x9, x10, x11, zs, rfl, k2, eD2, lz⟩ ⟨rfl, hx⟩
      obtain ⟨st, est, b, t, ts, rfl, eb, et, lt⟩ := lv.at hx
      have lz2 := lz.1
      have p1 := trs_pre ss (n + 1)
      rw [trs_take 0 n st est, List.length_append, List.length_map] at p1
      have p2 := flat_le (·.1) est
      have lc : (trsS 0 ss).length ≤ 40000 := lc
      have la' : (ss.flatMap (·.1)).length ≤ 90000 := la
      have ltl := lt.1
      have p2 : st.1.length ≤ (ss.flatMap (·.1)).length := p2
      have hb : (mkS st.1).length ≤ sizeLine := by rw [mkS_len]; exact big_ok (by omega)
      refine ⟨b, _, rfl, SqT.of (k2 _ _ eb), rfl, _, _, rfl, _, _, rfl, _, _, rfl, rfl, ?_⟩
      refine ⟨.ref D, rfl, .inl ⟨rfl, _, .inl (.inl eD2)⟩, ?_⟩
      refine ⟨_, rfl, t, rfl, ⟨_, SqT.of (k2 _ _ et)⟩, fun C nC => ?_⟩
      have nCD : D ≠ C := ne_of_none eD2 nC
      refine lc_it (walk_tup (K := K) (a := t) (xs := ts)) (fun u H' => ∃ ws, Same H2 H' ∧ H' C = some (.lst ws) ∧ LV (TrV H') ws ((st.2.2.take u).map (shT ((((ss.take n).flatMap (·.1)).length : Nat) : Int)))) ⟨[], same_upd (Same.refl H2) nC, upd_same, LV.nil⟩ ?_ ?_ ?_
      · rintro u H' _ ⟨_, k, _⟩
        exact SqT.of ((k2.trans k) _ _ et)
      · rintro u y Hb H3 hu ⟨ws, k3, eC, lw⟩ ⟨rfl, hy⟩
        obtain ⟨r, er, c, rfl, ec, l5⟩ := lt.at hy
        obtain ⟨a1, a2, a3, a4, a5, rfl⟩ : ∃ a1 a2 a3 a4 a5, r = [a1, a2, a3, a4, a5] := by
          match r, l5 with
          | [a1, a2, a3, a4, a5], _ => exact ⟨_, _, _, _, _, rfl⟩
        have ec : H c = some (.tup [V.int a1, .int a2, .int a3, .int a4, .int a5]) := ec
        have lwl := lw.1
        rw [List.length_map, List.length_take] at lwl
        refine ⟨c, _, rfl, SqT.of ((k2.trans k3) _ _ ec), rfl, .int a1, [.int a2, .int a3, .int a4, .int a5], rfl, .int a2, [.int a3, .int a4, .int a5], rfl, .int a3, [.int a4, .int a5], rfl, .int a4, [.int a5], rfl, .int a5, [], rfl, rfl, ?_⟩
        refine ⟨by kernel_rfl, ?_⟩
        refine ⟨nV ((ss.take n).flatMap (·.1)).length, by kernel_rfl, .int a1, by kernel_rfl, _, _, rfl, rfl, .int a2, by kernel_rfl, .int a3, by kernel_rfl, .int a4, by kernel_rfl, .int a5, by kernel_rfl, by show 5 ≤ sizeLine; decide, fun p np => ?_⟩
        have k4 := same_upd (o := .tup [V.int (((((ss.take n).flatMap (·.1)).length : Nat) : Int) + a1), .int a2, .int a3, .int a4, .int a5]) (Same.refl H3) np
        have eC4 := k4 _ _ eC
        have kt := kt_mut (zs := ws ++ [V.ref p]) eC4
        refine ⟨ws, eC4, szN (by omega), ws ++ [.ref p], same_mut (k3.trans k4) nC, upd_same, ?_⟩
        rw [show st.2.2.take (u + 1) = st.2.2.take u ++ [[a1, a2, a3, a4, a5]] by rw [List.take_succ, er]; rfl, List.map_append]
        exact LV.snoc (lw.mono fun _ _ z => z.kt fun a xs e => kt _ _ (k4 _ _ e)) ⟨p, rfl, kt _ _ upd_same, rfl⟩
      · rintro H3 ⟨ws, k3, eC, lw⟩
        rw [lt.1, List.take_length] at lw
        have lwl := lw.1
        rw [List.length_map] at lwl
        have eD3 := k3 _ _ eD2
        refine ⟨D, C, zs, ws, rfl, rfl, eD3, eC, Nat.le_of_lt (szN (by omega)), ?_⟩
        have kt := kt_mut (zs := zs ++ ws) eD3
        refine ⟨_, rfl, _, rfl, _, rfl, hb, _, _, rfl, rfl, ?_⟩
        have ev : V.int (((((ss.take n).flatMap (·.1)).length : Nat) : Int) + ((mkS st.1).length : Nat)) = nV ((ss.take (n + 1)).flatMap (·.1)).length := by
          rw [fl_one (·.1) est, List.length_append, mkS_len]; rfl
        refine ⟨some (sV st.1), some (sV st.2.1), some (.ref t), x6, x7, x8, x9, x10, x11, zs ++ ws, congrArg (fun z => [some (V.ref L), some (.ref D), some z, some (sV st.1), some (sV st.2.1), some (.ref t), x6, x7, x8, x9, x10, x11]) ev, same_mut (k2.trans k3) nD, upd_same, ?_⟩
        rw [trs_take 0 n st est, Nat.zero_add]
        exact LV.app (lz.mono fun _ _ z => z.kt fun a xs e => kt _ _ (k3 _ _ e)) (lw.mono fun _ _ z => z.kt kt)
    · rintro σ1 H2 ⟨x3, x4, x5, x6, x7, x8, x9, x10, x11, zs, rfl, k2, eD2, lz⟩
      rw [lus, List.take_length] at lz
      have lz2 := lz.1
      have em : ∀ (h : Stp → List Nat) (n : Nat), (((ss.take n).map h).map mkS).map (fun z => V.str z) = ((ss.take n).map h).map sV := fun h n => by rw [List.map_map]; rfl
      refine ⟨⟨_, rfl⟩, _, rfl, L, rfl, ⟨_, SqL.of (k2 _ _ eL)⟩, fun C1 nC1 => ?_⟩
      refine lc_it (walk_list (K := K) (a := L) (xs := us)) (fun n H' => Same H2 H' ∧ H' C1 = some (.lst (((ss.take n).map (·.1)).map sV))) ⟨same_upd (Same.refl H2) nC1, upd_same⟩ ?_ ?_ ?_
      · rintro i H' _ ⟨k, _⟩
        exact SqL.of ((k2.trans k) _ _ eL)
      · rintro n x Ha H3 hn ⟨k3, eC⟩ ⟨rfl, hx⟩
        obtain ⟨st, est, b, t, ts, rfl, eb, et, lt⟩ := lv.at hx
        refine ⟨rfl, _, rfl, b, _, 0, _, rfl, rfl, SqT.of ((k2.trans k3) _ _ eb), rfl, _, eC, ?_, same_mut k3 nC1, ?_⟩
        · rw [List.length_map, List.length_map, List.length_take]; exact szN (by omega)
        · rw [upd_same, show ss.take (n + 1) = ss.take n ++ [st] by rw [List.take_succ, est]; rfl, List.map_append, List.map_append]; rfl
      rintro H3 ⟨k3, eC⟩
      rw [lus, List.take_length] at eC
      refine ⟨"", C1, (ss.map (·.1)).map mkS, rfl, rfl, .inl (SqL.of (by rw [eC, map_sV])), ?_, ?_⟩
      · have e1 : ((ss.map (·.1)).flatten).length = (ss.flatMap (·.1)).length := by rw [List.flatMap_def]
        have la : (ss.flatMap (·.1)).length ≤ 90000 := la
        rw [sum_len, e1, show (("" : Str)).length = 0 from by rw [empty_mk, mkS_len]; rfl]
        refine big_ok ?_
        rw [List.length_map, List.length_map]; omega
      · rw [join_mk]
        refine ⟨⟨_, rfl⟩, _, rfl, L, rfl, ⟨_, SqL.of ((k2.trans k3) _ _ eL)⟩, fun C2 nC2 => ?_⟩
        refine lc_it (walk_list (K := K) (a := L) (xs := us)) (fun n H' => Same H3 H' ∧ H' C2 = some (.lst (((ss.take n).map (·.2.1)).map sV))) ⟨same_upd (Same.refl H3) nC2, upd_same⟩ ?_ ?_ ?_
        · rintro i H' _ ⟨k, _⟩
          exact SqL.of (((k2.trans k3).trans k) _ _ eL)
        · rintro n x Ha H4 hn ⟨k4, eC⟩ ⟨rfl, hx⟩
          obtain ⟨st, est, b, t, ts, rfl, eb, et, lt⟩ := lv.at hx
          refine ⟨rfl, _, rfl, b, _, 1, _, rfl, rfl, SqT.of (((k2.trans k3).trans k4) _ _ eb), rfl, _, eC, ?_, same_mut k4 nC2, ?_⟩
          · rw [List.length_map, List.length_map, List.length_take]; exact szN (by omega)
          · rw [upd_same, show ss.take (n + 1) = ss.take n ++ [st] by rw [List.take_succ, est]; rfl, List.map_append, List.map_append]; rfl
        rintro H4 ⟨k4, eC⟩
        rw [lus, List.take_length] at eC
        refine ⟨"", C2, (ss.map (·.2.1)).map mkS, rfl, rfl, .inl (SqL.of (by rw [eC, map_sV])), ?_, ?_⟩
        · have e1 : ((ss.map (·.2.1)).flatten).length = (ss.flatMap (·.2.1)).length := by rw [List.flatMap_def]
          have lb : (ss.flatMap (·.2.1)).length ≤ 90000 := lb
          rw [sum_len, e1, show (("" : Str)).length = 0 from by rw [empty_mk, mkS_len]; rfl]
          refine big_ok ?_
          rw [List.length_map, List.length_map]; omega
        · rw [join_mk]
          have k24 := k3.trans k4
          refine ⟨_, rfl, D, zs, rfl, .inl ⟨SqL.of (k24 _ _ eD2), fun t nt => ⟨by show 3 ≤ sizeLine; decide, fun b nb => ?_⟩⟩⟩
          have k5 := same_upd (o := .tup zs) (Same.refl H4) nt
          have et : upd H4 t (.tup zs) t = some (.tup zs) := upd_same
          generalize upd H4 t (.tup zs) = H5 at k5 et nb
          have tt := kt_new (o := .tup [V.str (mkS (ss.map (·.1)).flatten), V.str (mkS (ss.map (·.2.1)).flatten), V.ref t]) nb
          refine q _ (.ref b) (same_upd ((k2.trans k24).trans k5) nb) ⟨b, t, zs, rfl, ?_, tt _ _ et, lz.mono fun _ _ z => z.kt fun a xs e => tt _ _ (k5 _ _ (k24 _ _ e))⟩
          rw [upd_same]
          show some (HO.tup [V.str (mkS (ss.map (·.1)).flatten), V.str (mkS (ss.map (·.2.1)).flatten), V.ref t]) = some (HO.tup [sV (ss.flatMap (·.1)), sV (ss.flatMap (·.2.1)), V.ref t])
          rw [List.flatMap_def, List.flatMap_def]; rfl
end
end Vf

set_option Elab.async false
set_option linter.all false
set_option maxRecDepth 100000
set_option maxHeartbeats 4000000
namespace Vf
open PySem PySem.Spec PyProof.Rows L2 TL
/-! ### lines as strips: the mathematics -/
/-- a style with its first price -/
def StyL (H : Hp) (v : V) (S : Sty) (L : Nat) : Prop := ∃ (a p : Addr) (wv cv bv : V) (ps : List V), v = .ref a ∧ H a = some (.tup [.int S.m, .int S.dp, .int S.cl, wv, cv, bv, .ref p]) ∧ RowsV H wv (rowsW S.W) ∧ RowsV H cv (rows2 S.C) ∧ RowsV H bv (rows2 S.B) ∧ H p = some (.tup (nV L :: ps))
theorem StyL.kt {H H' : Hp} {v : V} {S : Sty} {L : Nat} (h : StyL H v S L) (k : ∀ a xs, H a = some (.tup xs) → H' a = some (.tup xs)) : StyL H' v S L := by
  obtain ⟨a, p, wv, cv, bv, ps, e, h1, h2, h3, h4, h5⟩ := h
  exact ⟨a, p, wv, cv, bv, ps, e, k _ _ h1, h2.mono k, h3.mono k, h4.mono k, k _ _ h5⟩
theorem StyL.sty {H : Hp} {v : V} {S : Sty} {L : Nat} (h : StyL H v S L) : StyV H v S := by
  obtain ⟨a, p, wv, cv, bv, ps, e, h1, h2, h3, h4, h5⟩ := h
  exact ⟨a, wv, cv, bv, .ref p, e, h1, h2, h3, h4⟩
def skN (Y : List (List Nat × Nat)) (i : Nat) : Nat := (Y.getD i ([], 0)).2
def wdsY (Y : List (List Nat × Nat)) : List (List Nat) := Y.map (·.1)
/-- a word and whether it is struck -/
def WkV (H : Hp) (x : V) (y : List Nat × Nat) : Prop := ∃ b, x = .ref b ∧ H b = some (.tup [sV y.1, nV y.2])
theorem WkV.kt {H H' : Hp} {x : V} {y : List Nat × Nat} (h : WkV H x y) (k : ∀ a xs, H a = some (.tup xs) → H' a = some (.tup xs)) : WkV H' x y := by
  obtain ⟨b, e, h1⟩ := h
  exact ⟨b, e, k _ _ h1⟩
/-- signs and cover -/
def CvV (H : Hp) (x : V) (c : List Nat × List Nat) : Prop := ∃ b, x = .ref b ∧ H b = some (.tup [sV c.1, sV c.2])
theorem CvV.kt {H H' : Hp} {x : V} {c : List Nat × List Nat} (h : CvV H x c) (k : ∀ a xs, H a = some (.tup xs) → H' a = some (.tup xs)) : CvV H' x c := by
  obtain ⟨b, e, h1⟩ := h
  exact ⟨b, e, k _ _ h1⟩
theorem wdsY_len (Y : List (List Nat × Nat)) : (wdsY Y).length = Y.length := List.length_map _
theorem y_at {Y : List (List Nat × Nat)} {i : Nat} (h : i < Y.length) : Y[i]? = some (wz (wdsY Y) i, skN Y i) := by
  have e : Y[i]? = some Y[i] := List.getElem?_eq_getElem h
  unfold wz skN wdsY
  rw [List.getD_eq_getElem?_getD, List.getD_eq_getElem?_getD, List.getElem?_map, e]; rfl
def pcsN (x y : Nat × Nat) : Nat := (y.1 - x.1) + if 0 < y.2 then 1 else 0
def mkM (y : Nat × Nat) (a : Nat) : Nat := if a = y.1 then y.2 else 0
def pcA (S : Sty) (Y : List (List Nat × Nat)) (x y : Nat × Nat) (t : Nat) : Stp := pieceS S (wz (wdsY Y) (x.1 + t)) (skN Y (x.1 + t)) (kkA x.2 t) (mkM y (x.1 + t))
/-- two places of the net, the one before the other -/
def TwoP (S : Sty) (Z : List (List Nat)) (x y : Nat × Nat) : Prop := x.1 < Z.length ∧ x.2 ≤ nP S (wz Z x.1) ∧ ((x.1 = y.1 ∧ x.2 < y.2 ∧ y.2 ≤ nP S (wz Z x.1)) ∨ (x.1 < y.1 ∧ ((y.1, y.2) = (Z.length, 0) ∨ (y.1 < Z.length ∧ y.2 ≤ nP S (wz Z y.1)))))
theorem two_pos {S : Sty} {Z : List (List Nat)} {x y : Nat × Nat} (h : TwoP S Z x y) : 1 ≤ pcsN x y ∧ x.1 + pcsN x y ≤ Z.length := by
  obtain ⟨h1, h2, h3⟩ := h
  unfold pcsN
  rcases h3 with ⟨e, a, b⟩ | ⟨a, h4⟩
  · rw [if_pos (by omega)]; omega
  · rcases h4 with e | ⟨b, c⟩
    · have := (Prod.mk.inj e).1
      have e2 := (Prod.mk.inj e).2
      rw [if_neg (by omega)]; omega
    · split <;> omega
theorem two_t {S : Sty} {Z : List (List Nat)} {x y : Nat × Nat} (h : TwoP S Z x y) {t : Nat} (ht : t < pcsN x y) : x.1 + t < Z.length ∧ kkA x.2 t ≤ nP S (wz Z (x.1 + t)) ∧ mkM y (x.1 + t) ≤ nP S (wz Z (x.1 + t)) ∧ (mkM y (x.1 + t) = 0 ∨ kkA x.2 t < mkM y (x.1 + t)) := by
  have h0 := two_pos h
  obtain ⟨h1, h2, h3⟩ := h
  have hk : kkA x.2 t ≤ nP S (wz Z (x.1 + t)) := by
    unfold kkA
    split
    · rename_i c
      subst c
      exact h2
    · exact Nat.zero_le _
  refine ⟨by omega, hk, ?_⟩
  unfold mkM
  by_cases c : x.1 + t = y.1
  · rw [if_pos c]
    rcases h3 with ⟨e, a, b⟩ | ⟨a, h4⟩
    · have ht0 : t = 0 := by omega
      subst ht0
      exact ⟨b, .inr a⟩
    · have ht0 : t ≠ 0 := by omega
      have hkz : kkA x.2 t = 0 := if_neg ht0
      rw [hkz]
      rcases h4 with e | ⟨b, d⟩
      · rw [(Prod.mk.inj e).2]; exact ⟨Nat.zero_le _, .inl rfl⟩
      · rw [c]; exact ⟨d, by omega⟩
  · rw [if_neg c]; exact ⟨Nat.zero_le _, .inl rfl⟩
theorem piece_sg (S : Sty) (z : List Nat) (q k m : Nat) : (pieceS S z q k m).1 = pcN S z k m := by
  unfold pieceS
  split <;> rfl
theorem piece_cv (S : Sty) (z : List Nat) (q k m : Nat) : (pieceS S z q k m).2.1 = List.replicate (pcN S z k m).length (if q = 0 then 32 else 35) := by
  unfold pieceS
  split <;> rfl
/-- as long covers as signs, at most one trace -/
def EqL (s : Stp) : Prop := s.1.length = s.2.1.length ∧ s.2.2.length ≤ 1
theorem piece_eq (S : Sty) (z : List Nat) (q k m : Nat) : EqL (pieceS S z q k m) := by
  refine ⟨by rw [piece_sg, piece_cv, List.length_replicate], ?_⟩
  unfold pieceS
  split
  · exact Nat.zero_le _
  · exact Nat.le_refl _
theorem blank_eq (n : Nat) : EqL (blankS n) := ⟨by show (List.replicate n 32).length = (List.replicate (List.replicate n 32).length 32).length; rw [List.length_replicate (n := (List.replicate n 32).length)], Nat.zero_le _⟩
def swT (p : Nat → Stp) : Nat → Nat
  | 0 => 0
  | n + 1 => swT p n + (p n).1.length
theorem sw_ah {S : Sty} (ok : StyOk S) (Y : List (List Nat × Nat)) (x y : Nat × Nat) : ∀ t, t ≤ y.1 - x.1 → swT (pcA S Y x y) t + t = ahW S (wdsY Y) x.1 x.2 t
  | 0, _ => rfl
  | t + 1, h => by
    have ih := sw_ah ok Y x y t (by omega)
    have e : (pcA S Y x y t).1.length = pcW S (wz (wdsY Y) (x.1 + t)) (kkA x.2 t) 0 := by
      unfold pcA mkM
      rw [piece_sg, if_neg (by omega), pcN_len ok]
    show swT _ t + (pcA S Y x y t).1.length + (t + 1) = ahW S (wdsY Y) x.1 x.2 t + (pcW S (wz (wdsY Y) (x.1 + t)) (kkA x.2 t) 0 + 1)
    omega
theorem sw_nat {S : Sty} (ok : StyOk S) {Y : List (List Nat × Nat)} {x y : Nat × Nat} (h : TwoP S (wdsY Y) x y) : swT (pcA S Y x y) (pcsN x y) + (pcsN x y - 1) = natW S (wdsY Y) x.1 x.2 y := by
  have h0 := (two_pos h).1
  have hxy : x.1 ≤ y.1 := by
    rcases h.2.2 with h | h <;> omega
  unfold natW
  by_cases c : y.2 = 0
  · have e : pcsN x y = y.1 - x.1 := by unfold pcsN; rw [if_neg (by omega)]; rfl
    rw [if_pos c]
    have := sw_ah ok Y x y (y.1 - x.1) (Nat.le_refl _)
    rw [e] at h0 ⊢
    omega
  · have e : pcsN x y = (y.1 - x.1) + 1 := by unfold pcsN; rw [if_pos (by omega)]
    rw [if_neg c, e]
    have := sw_ah ok Y x y (y.1 - x.1) (Nat.le_refl _)
    have e2 : (pcA S Y x y (y.1 - x.1)).1.length = pcW S (wz (wdsY Y) y.1) (kkA x.2 (y.1 - x.1)) y.2 := by
      unfold pcA mkM
      rw [piece_sg, if_pos (by omega), pcN_len ok, show x.1 + (y.1 - x.1) = y.1 by omega]
    show swT _ (y.1 - x.1) + (pcA S Y x y (y.1 - x.1)).1.length + (y.1 - x.1 + 1 - 1) = _
    omega
def rowS (p : Nat → Stp) (g : Nat → Nat) : Nat → List Stp
  | 0 => [p 0]
  | t + 1 => rowS p g t ++ [blankS (g (t + 1)), p (t + 1)]
def gapF (r n u : Nat) : Nat := 1 + u * r / n - (u - 1) * r / n
def gsT (g : Nat → Nat) : Nat → Nat
  | 0 => 0
  | t + 1 => gsT g t + g (t + 1)
theorem gap_le (r n t : Nat) : t * r / n ≤ (t + 1) * r / n := Nat.div_le_div_right (Nat.mul_le_mul_right r (Nat.le_succ t))
theorem gs_tel (r n : Nat) : ∀ t, gsT (gapF r n) t = t + t * r / n
  | 0 => by show 0 = 0 + 0 * r / n; rw [Nat.zero_mul, Nat.zero_div]
  | t + 1 => by
    show gsT (gapF r n) t + gapF r n (t + 1) = _
    rw [gs_tel r n t]
    unfold gapF
    rw [Nat.add_sub_cancel]
    have h := gap_le r n t
    generalize t * r / n = a at h ⊢
    generalize (t + 1) * r / n = b at h ⊢
    omega
theorem row_n (p : Nat → Stp) (g : Nat → Nat) : ∀ t, (rowS p g t).length = 2 * t + 1
  | 0 => rfl
  | t + 1 => by
    show (rowS p g t ++ _).length = _
    rw [List.length_append, row_n p g t]
    show 2 * t + 1 + 2 = _
    omega
theorem row_sg (p : Nat → Stp) (g : Nat → Nat) : ∀ t, ((rowS p g t).flatMap (·.1)).length = swT p (t + 1) + gsT g t
  | 0 => by
    show ((p 0).1 ++ []).length = 0 + (p 0).1.length + 0
    rw [List.append_nil]; omega
  | t + 1 => by
    show ((rowS p g t ++ [blankS (g (t + 1)), p (t + 1)]).flatMap (·.1)).length = swT p (t + 1) + (p (t + 1)).1.length + (gsT g t + g (t + 1))
    rw [List.flatMap_append, List.length_append, row_sg p g t, List.flatMap_cons, List.flatMap_cons, List.flatMap_nil, List.append_nil, List.length_append]
    have : (blankS (g (t + 1))).1.length = g (t + 1) := List.length_replicate
    omega
theorem row_mem {p : Nat → Stp} {g : Nat → Nat} (hp : ∀ t, EqL (p t)) : ∀ t, ∀ s ∈ rowS p g t, EqL s
  | 0, s, h => by rw [List.mem_singleton.mp h]; exact hp 0
  | t + 1, s, h => by
    rcases List.mem_append.mp h with h | h
    · exact row_mem hp t s h
    · rcases List.mem_cons.mp h with h | h
      · rw [h]; exact blank_eq _
      · rw [List.mem_singleton.mp h]; exact hp _
theorem flat_eq : ∀ {ss : List Stp}, (∀ s ∈ ss, s.1.length = s.2.1.length) → (ss.flatMap (·.1)).length = (ss.flatMap (·.2.1)).length
  | [], _ => rfl
  | s :: ss, h => by
    rw [List.flatMap_cons, List.flatMap_cons, List.length_append, List.length_append, h s List.mem_cons_self, flat_eq fun x hx => h x (List.mem_cons_of_mem _ hx)]
theorem trs_le : ∀ {ss : List Stp} (l : Nat), (∀ s ∈ ss, s.2.2.length ≤ 1) → (trsS l ss).length ≤ ss.length
  | [], _, _ => Nat.le_refl _
  | s :: ss, l, h => by
    show (s.2.2.map _ ++ trsS _ ss).length ≤ ss.length + 1
    rw [List.length_append, List.length_map]
    have h1 := h s List.mem_cons_self
    have h2 := trs_le (ss := ss) (l + s.1.length) fun x hx => h x (List.mem_cons_of_mem _ hx)
    omega
def EqL' (s : Stp) : Prop := s.1.length = s.2.1.length ∧ s.2.2.length ≤ 1000
/-- a row's strips joined fit -/
theorem row_ok {p : Nat → Stp} {r n : Nat} (hp : ∀ t, EqL (p t)) (hn : n ≤ 40) (hl : swT p (n + 1) + n + n * r / n ≤ 20000) : JnOk (rowS p (gapF r n) n) ∧ EqL' (jnS (rowS p (gapF r n) n)) ∧ (jnS (rowS p (gapF r n) n)).1.length = swT p (n + 1) + n + n * r / n := by
  have h1 := row_sg p (gapF r n) n
  rw [gs_tel] at h1
  have h2 := flat_eq fun s hs => (row_mem (g := gapF r n) hp n s hs).1
  have h3 := trs_le 0 fun s hs => (row_mem (g := gapF r n) hp n s hs).2
  have h4 := row_n p (gapF r n) n
  have ea : (jnS (rowS p (gapF r n) n)).1.length = swT p (n + 1) + n + n * r / n := by
    show ((rowS p (gapF r n) n).flatMap (·.1)).length = _
    omega
  refine ⟨⟨by omega, by omega, ?_, ?_⟩, ⟨h2, ?_⟩, ea⟩
  · show ((rowS p (gapF r n) n).flatMap (·.2.1)).length ≤ 90000
    omega
  · show (trsS 0 (rowS p (gapF r n) n)).length ≤ 40000
    omega
  · show (trsS 0 (rowS p (gapF r n) n)).length ≤ 1000
    omega
/-- one line: its signs and its cover -/
def lnC (p : Nat → Stp) (n M r : Nat) : List Nat × List Nat := ((jnS (rowS p (gapF r n) n)).1 ++ List.replicate (M - (jnS (rowS p (gapF r n) n)).1.length) 32, (jnS (rowS p (gapF r n) n)).2.1 ++ List.replicate (M - (jnS (rowS p (gapF r n) n)).1.length) 32)
def plS (l : Nat) (s : Stp) (M : Nat) : Stp := jnS [blankS l, s, blankS (M - l - s.1.length)]
theorem pl_ok {l M : Nat} {s : Stp} (h : EqL' s) (hm : M ≤ 20000) (hl : l + s.1.length ≤ M) : JnOk [blankS l, s, blankS (M - l - s.1.length)] := by
  obtain ⟨h1, h2⟩ := h
  have b : ∀ n, (blankS n).1.length = n := fun n => List.length_replicate
  have b2 : ∀ n, (blankS n).2.1.length = n := fun n => by show (List.replicate (List.replicate n 32).length 32).length = n; rw [List.length_replicate, List.length_replicate]
  refine ⟨by show 3 ≤ 1000; decide, ?_, ?_, ?_⟩
  · show ((blankS l).1 ++ (s.1 ++ ((blankS (M - l - s.1.length)).1 ++ []))).length ≤ 90000
    rw [List.length_append, List.length_append, List.length_append, b, b]
    show l + (s.1.length + (M - l - s.1.length + 0)) ≤ 90000
    omega
  · show ((blankS l).2.1 ++ (s.2.1 ++ ((blankS (M - l - s.1.length)).2.1 ++ []))).length ≤ 90000
    rw [List.length_append, List.length_append, List.length_append, b2, b2]
    show l + (s.2.1.length + (M - l - s.1.length + 0)) ≤ 90000
    omega
  · show ([] ++ (s.2.2.map _ ++ ([] ++ []))).length ≤ 40000
    rw [List.nil_append, List.append_nil, List.append_nil, List.length_map]
    omega
theorem pl_cv {M : Nat} {s : Stp} : ((plS 0 s M).1, (plS 0 s M).2.1) = (s.1 ++ List.replicate (M - s.1.length) 32, s.2.1 ++ List.replicate (M - s.1.length) 32) := by
  refine Prod.ext ?_ ?_
  · show [] ++ (s.1 ++ (List.replicate (M - 0 - s.1.length) 32 ++ [])) = _
    rw [List.nil_append, List.append_nil, Nat.sub_zero]
  · show [] ++ (s.2.1 ++ (List.replicate (List.replicate (M - 0 - s.1.length) 32).length 32 ++ [])) = _
    rw [List.nil_append, List.append_nil, Nat.sub_zero, List.length_replicate]
end Vf

set_option Elab.async false
set_option linter.all false
set_option maxRecDepth 100000
set_option maxHeartbeats 4000000
namespace Vf
open PySem PySem.Spec PyProof.Rows L2 TL
/-! ### enumerate over a list, from one on -/
/-- the list at a, each item in a new pair with its number and one -/
def IteL (K : PySem.W.Frag) (a : Addr) : It where
  go := fun i H => ∃ (xs : List V) (x : V), SqL K H a xs ∧ xs[i]? = some x
  yld := fun i H v H' => ∃ (T : Addr) (x : V), v = .ref T ∧ H T = none ∧ H' = upd H T (.tup [.int ((i + 1 : Nat) : Int), x]) ∧ ∀ xs, SqL K H a xs → xs[i]? = some x
  stop := fun i H => ∃ xs : List V, SqL K H a xs ∧ xs.length = i
theorem turn_enumL1 {P : Program} {w : World} {K : PySem.W.Frag} {elts : List Expr} {kk : Nat} {tpos : Pos} (a e it : Addr) :
    Turn P w K (.Tuple elts kk tpos) (IteL K a) [e, it] e (fun i h => (∃ old, IsEnum h e it ((i + 1 : Nat) : Int) old) ∧ h.IsListIter it a i ∧ e ≠ it) where
  mem := List.mem_cons_self
  obj := fun i h st b hb => by
    obtain ⟨⟨old, ie⟩, ⟨u, hu, _, du⟩, _⟩ := st
    rcases List.mem_cons.mp hb with z | z
    · rw [z]; exact ⟨_, ie, fun v q => nomatch q⟩
    · rw [List.mem_singleton.mp z]; exact ⟨u, hu, fun v q => by rw [du] at q; cases q⟩
  keep := fun i h h' st k => by
    obtain ⟨⟨old, ie⟩, it1, ne⟩ := st
    exact ⟨⟨old, k e List.mem_cons_self _ ie⟩, it1.at fun u q => k it (List.mem_cons_of_mem _ List.mem_cons_self) u q, ne⟩
  item := by
    intro X hP hw hK hc i pins s σ H E I hf st hg
    subst hP hw hK
    obtain ⟨⟨old, ie⟩, it1, ne⟩ := st
    obtain ⟨xs, x, hq, hx⟩ := hg
    obtain ⟨its, rv, p, hz⟩ := I.list hq
    obtain ⟨u, hu, ru⟩ := rv.get hx
    have p2 : s.heap.IsList a its.toArray := p.isList
    obtain ⟨oa, ga, ca, _⟩ := id p2
    obtain ⟨oi, gi, ci, _⟩ := id it1
    have nai : a ≠ it := apart_of ga gi ca ci (by decide)
    have nea : e ≠ a := apart_of (m := "enumerate") ie ga rfl ca (by decide)
    have hel : e < s.heap.objs.size := Heap.lt_size ie
    have hil : it < s.heap.objs.size := Heap.lt_size gi
    have hil2 : i < its.toArray.size := by
      have := (List.getElem?_eq_some_iff.mp hu).1
      simpa using this
    refine wpAny_pyNext_enum_itemC (Draws.list (prog := X.prog) (w := X.w) (A := X.A.in1) (I.ok.hd hc) it a nai its.toArray) ie ⟨it1, p2⟩ hil2 ne ?_ fun y h' tk hy ho hst hT hsz hk => ?_
    · intro hm
      rcases List.mem_cons.mp hm with z | z
      · exact ne z
      · exact nea (List.mem_singleton.mp z)
    have eu : y = u := by
      have h1 : its[i]? = some y := by simpa using hy
      exact Option.some.inj (h1.symm.trans hu)
    subst eu
    refine ⟨_, rfl, wpAny_letOwnedTupleGo_enum (s := { s with heap := h', toks := tk + 1 }) ho fun h2 he2 sb => ?_⟩
    have hT2 : h2.get? s.heap.objs.size = some { cls := .type "tuple", data := .seq #[.int ((i + 1 : Nat) : Int) tk, y] } := (sb.2 _ (Nat.ne_of_gt hel)).trans hT
    have made : ObjOk X.prog X.w (upd H s.heap.objs.size (.tup [.int ((i + 1 : Nat) : Int), x])) h2 s.heap.objs.size (.tup [.int ((i + 1 : Nat) : Int), x]) :=
      ⟨(by show 2 ≤ sizeLine; decide), [.int ((i + 1 : Nat) : Int) tk, y], .cons ⟨_, rfl⟩ (.cons ru .nil), ⟨_, hT2, rfl, _, rfl⟩⟩
    have J : Inv X pins σ (upd H s.heap.objs.size (.tup [.int ((i + 1 : Nat) : Int), x])) { s with heap := h2, toks := tk + 1 } :=
      I.turnedNew (ch := [e, it]) (fun b ob hb q => (sb.2 b (fun z => hb (by rw [z]; exact List.mem_cons_self))).trans
        (hk b ob (fun z => hb (by rw [z]; exact List.mem_cons_self)) (fun z => hb (by rw [z]; exact List.mem_cons_of_mem _ List.mem_cons_self)) q)) hf (Nat.le_refl _) made
    have e1 : ((i + 1 + 1 : Nat) : Int) = ((i + 1 : Nat) : Int) + 1 := by omega
    refine ⟨.ref s.heap.objs.size, _, J, rfl, ⟨_, x, rfl, I.hok.fresh (Nat.le_refl _), rfl, fun ys hy2 => by rw [I.list_inj hy2 hq]; exact hx⟩,
      ⟨⟨y, by rw [e1]; exact he2⟩, hst.1.at fun u2 q => (sb.2 it (Ne.symm ne)).trans q, ne⟩, fun b hb => ?_⟩
    have hlt : b < s.heap.objs.size := by
      rcases List.mem_cons.mp hb with z | z
      · rw [z]; exact hel
      · rw [List.mem_singleton.mp z]; exact hil
    rw [upd_ne (Nat.ne_of_lt hlt)]
    exact (hf b hb).1
  done := by
    intro X hP hw hK hc i pins s σ H E I hf st hg
    subst hP hw hK
    obtain ⟨⟨old, ie⟩, it1, ne⟩ := st
    obtain ⟨xs, hq, hx⟩ := hg
    obtain ⟨its, rv, p, hz⟩ := I.list hq
    have p2 : s.heap.IsList a its.toArray := p.isList
    obtain ⟨oa, ga, ca, _⟩ := id p2
    obtain ⟨oi, gi, ci, di⟩ := id it1
    have nai : a ≠ it := apart_of ga gi ca ci (by decide)
    obtain ⟨f0, f1, f2, f3, f4, f5⟩ := hf it (List.mem_cons_of_mem _ List.mem_cons_self)
    have hl := rv.length
    refine wpAny_pyNext_enum_endD (Draws.list (prog := X.prog) (w := X.w) (A := X.A.in1) (I.ok.hd hc) it a nai its.toArray) ie ⟨?_, p2⟩ fun h' eb => ⟨rfl, I.turned (t' := s.toks) (fun b o hb q => eb b o hb q) f0 f1 f3 f4 f5⟩
    have ei : its.toArray.size = i := by simp; omega
    rw [ei]
    exact it1
  self := fun A i s Q E st h => by
    obtain ⟨⟨_, ie⟩, _⟩ := st
    exact wpAny_pyIter_enum ie h
def iEnumL1 (K : PySem.W.Frag) (ta : TA) : TI := fun σ H R => ta σ H fun vs H1 => ∃ (a : Addr) (xs : List V), vs = [.ref a] ∧ SqL K H1 a xs ∧ R (IteL K a) H1
theorem pi_enumL1 {X : Cx} {e : Expr} {ta : TA} {p pos tpos kpos ipos : Pos} {j} {elts : List Expr} {kk : Nat} (hg : Gl X "enumerate") (hm : X.mg "enumerate" = none) (ha : PA X [e] ta)
    (hs : starEach [e] X.env = (false, eval e X.env) :: starEach [] X.env := by rfl)
    (hall : (backToKw pos (keywordEach [⟨some "start", .Constant (.int 1) j ipos, kpos⟩] X.env)).all (·.1.isSome) = true := by rfl)
    (hks : (backToKw pos (keywordEach [⟨some "start", .Constant (.int 1) j ipos, kpos⟩] X.env)).filterMap (·.1) = [Str.ofString "start"] := by rfl)
    (hpl : ((backTo pos (starEach [e] X.env)).any (·.1) || (backToKw pos (keywordEach [⟨some "start", .Constant (.int 1) j ipos, kpos⟩] X.env)).any (·.1.isNone)) = false := by rfl) :
    PI X (.Tuple elts kk tpos) (.Call (.Name "enumerate" p) [e] [⟨some "start", .Constant (.int 1) j ipos, kpos⟩] pos) (iEnumL1 X.K ta) := by
  constructor
  intro pins s σ H R I h
  refine wpAny_Call_Name_kw (ld_blt I hg hm boot_enumerate ?_)
  refine PySem.W.callWith_of (P := fun _ => True) hpl (fun _ _ => ⟨.machine, .inr (.inl rfl), PySem.W.Looks.of_pure (by rfl)⟩) (PyProof.Rows.evalArgs_kw2 hall (thn (ha.run pos pins s σ H _ I h) fun us s1 res => ?_) hs)
  obtain ⟨vs, H1, I1, r1, a, xs, ex, hq, q⟩ := res
  subst ex
  refine thn ((pk_cons (pe_int (X := X)) pk_nil).run pos pins s1 σ H1 (fun ws H2 => ws = [.int 1] ∧ H2 = H1) I1 ⟨rfl, rfl⟩) fun ws s2 ⟨zs, H2, I2, rz, q2⟩ => ⟨trivial, ?_⟩
  obtain ⟨rfl, rfl⟩ := q2
  rw [hks]
  cases r1 with
  | cons r rr =>
    cases rr
    cases r
    cases rz with
    | cons rw_ rw2 =>
      cases rw2
      obtain ⟨tkk, rfl⟩ := rw_
      obtain ⟨its, rv, p', hz⟩ := I2.list hq
      refine enum_begins_start (begins_list a its.toArray) p'.isList (by decide) (by decide) fun h' ie gi _ hk => wpAny_pyIter_enum ie ?_
      have J : Inv X pins σ H2 { s2 with heap := h' } := I2.kept (t' := s2.toks) hk
      refine ⟨s2.heap.objs.size + 1, [s2.heap.objs.size + 1, s2.heap.objs.size], _, _, H2, rfl, J, turn_enumL1 a (s2.heap.objs.size + 1) s2.heap.objs.size, ⟨⟨.none, ie⟩, ⟨_, gi, rfl, rfl⟩, Nat.succ_ne_self _⟩, fun b hb => ?_, q⟩
      have le : s2.heap.objs.size ≤ b := by
        rcases List.mem_cons.mp hb with z | z
        · rw [z]; exact Nat.le_succ _
        · rw [List.mem_singleton.mp z]; exact Nat.le_refl _
      exact I2.fpOk le (I2.hok.fresh le)
theorem walk_enumL1 {K : PySem.W.Frag} {a : Addr} {xs : List V} : Walk (IteL K a) xs.length (fun H => SqL K H a xs) (YPair (fun i => some (.int ((i + 1 : Nat) : Int))) (fun i => xs[i]?)) := by
  refine ⟨fun i _ hi q => ⟨xs, xs[i], q, by simp [hi]⟩, fun _ q => ⟨xs, q, rfl⟩, fun i H v H' _ q y => ?_⟩
  obtain ⟨T, x, h1, h2, h3, h4⟩ := y
  exact ⟨T, .int ((i + 1 : Nat) : Int), x, h1, h2, h3, rfl, h4 xs q⟩
end Vf

set_option Elab.async false
set_option linter.all false
set_option maxRecDepth 100000
set_option maxHeartbeats 4000000
namespace Vf
open PySem PySem.Spec PyProof.Rows L2
/-! ### zip of two walks, each over a list, a tuple or a text -/
inductive Zs where
  | L (a : Addr)
  | T (a : Addr)
  | S (x : Str)
def Zs.v : Zs → V
  | .L a => .ref a
  | .T a => .ref a
  | .S x => .str x
def Zs.has (K : PySem.W.Frag) (H : Hp) (xs : List V) : Zs → Prop
  | .L a => SqL K H a xs
  | .T a => SqT K H a xs
  | .S x => xs = x.cps.toList.map fun c => V.str ⟨#[c]⟩
def Zs.it (h : Heap) (i : Addr) (k : Nat) : Zs → Prop
  | .L a => h.IsListIter i a k
  | .T a => h.IsTupleIter i a k
  | .S x => ∃ t, h.IsStrIter i (strIterType x) x t k
def Zs.off (c : Addr) : Zs → Prop
  | .L a => a ≠ c
  | .T a => a ≠ c
  | .S _ => True
def Zs.fp (i : Addr) : Zs → List Addr
  | .L a => [i, a]
  | .T a => [i, a]
  | .S _ => [i]
theorem Zs.mem_fp {p : Zs} {i c : Addr} (h1 : c ≠ i) (h2 : p.off c) : c ∉ p.fp i := by
  cases p with
  | L a => simp only [Zs.fp, List.mem_cons, List.not_mem_nil, or_false, not_or]; exact ⟨h1, fun e => h2 e.symm⟩
  | T a => simp only [Zs.fp, List.mem_cons, List.not_mem_nil, or_false, not_or]; exact ⟨h1, fun e => h2 e.symm⟩
  | S x => simp only [Zs.fp, List.mem_cons, List.not_mem_nil, or_false]; exact h1
theorem Zs.at {p : Zs} {h h' : Heap} {i : Addr} {k : Nat} (st : p.it h i k) (e : ∀ o, h.get? i = some o → h'.get? i = some o) : p.it h' i k := by
  cases p with
  | L a => exact Heap.IsListIter.at st e
  | T a => exact Heap.IsTupleIter.at st e
  | S x => obtain ⟨t, o, ho, r⟩ := st; exact ⟨t, o, e _ ho, r⟩
theorem Zs.obj {p : Zs} {h : Heap} {i : Addr} {k : Nat} (st : p.it h i k) : ∃ o, h.get? i = some o ∧ ∀ v, o.data ≠ .cell v := by
  cases p with
  | L a => obtain ⟨o, e, _, d⟩ := st; exact ⟨o, e, fun v q => by rw [d] at q; cases q⟩
  | T a => obtain ⟨o, e, _, d⟩ := st; exact ⟨o, e, fun v q => by rw [d] at q; cases q⟩
  | S x => obtain ⟨t, o, e, _, d⟩ := st; exact ⟨o, e, fun v q => by rw [d] at q; cases q⟩
theorem Zs.one {K : PySem.W.Frag} {X : Cx} {pins : List (Addr × Obj)} {σ : L2.St} {H : Hp} {s : Shared} {p : Zs} {xs ys : List V} (hK : X.K = K) (I : Inv X pins σ H s) (h1 : p.has K H xs) (h2 : p.has K H ys) : xs = ys := by
  subst hK
  cases p with
  | L a => exact I.list_inj h1 h2
  | T a => exact I.tuple_inj h1 h2
  | S x => exact h1.trans h2.symm
/-- what such an iterator draws where the heap stands -/
theorem Zs.draws {X : Cx} {pins : List (Addr × Obj)} {σ : L2.St} {H : Hp} {s : Shared} {p : Zs} {xs : List V} {i : Addr} {k : Nat} (hc : X.calm = true) (I : Inv X pins σ H s) (h : p.has X.K H xs) (st : p.it s.heap i k) (ho : p.off i) :
    ∃ (n : Nat) (P : Nat → Value → Prop) (St : Nat → Heap → Prop), Draws X.prog X.w X.A.in1 i (p.fp i) n P St ∧ St k s.heap ∧ n = xs.length ∧ (∀ u v, P k u → xs[k]? = some v → RelV v u) ∧ ∀ j h', St j h' → p.it h' i j := by
  have hh : X.A.in1.handled = none := I.ok.hd hc
  cases p with
  | L a =>
    obtain ⟨its, rv, q, _⟩ := I.list h
    refine ⟨_, _, _, Draws.list hh i a ho its.toArray, ⟨st, q.isList⟩, by have := rv.length; simp; omega, fun u v hu hv => ?_, fun j h' q => q.1⟩
    obtain ⟨u', hu', r⟩ := rv.get hv
    have e : its[k]? = some u := by simpa using hu
    rw [hu'] at e
    cases e
    exact r
  | T a =>
    obtain ⟨its, rv, q, _⟩ := I.tuple h
    refine ⟨_, _, _, Draws.tuple hh i a ho its.toArray, ⟨st, q⟩, by have := rv.length; simp; omega, fun u v hu hv => ?_, fun j h' q => q.1⟩
    obtain ⟨u', hu', r⟩ := rv.get hv
    have e : its[k]? = some u := by simpa using hu
    rw [hu'] at e
    cases e
    exact r
  | S x =>
    obtain ⟨t, st⟩ := st
    have h : xs = x.cps.toList.map fun c => V.str ⟨#[c]⟩ := h
    subst h
    refine ⟨_, _, _, Draws.text hh i x t, st, by simp, fun u v hu hv => ?_, fun j h' q => ⟨t, q⟩⟩
    obtain ⟨c, tk, hc, rfl⟩ := hu
    rw [List.getElem?_map] at hv
    have hc2 : x.cps.toList[k]? = some c := by simpa using hc
    rw [hc2] at hv
    cases hv
    exact ⟨_, rfl⟩
/-- the cells lie apart -/
structure Zap (z TI TO i1 i2 : Addr) (p q : Zs) : Prop where
  TIz : TI ≠ z
  TOz : TO ≠ z
  TITO : TI ≠ TO
  TIi1 : TI ≠ i1
  TIi2 : TI ≠ i2
  zi1 : z ≠ i1
  zi2 : z ≠ i2
  Ti1 : TO ≠ i1
  Ti2 : TO ≠ i2
  i12 : i1 ≠ i2
  p1 : p.off i1
  p2 : p.off i2
  pz : p.off z
  pT : p.off TO
  q1 : q.off i1
  q2 : q.off i2
  qz : q.off z
  qT : q.off TO
theorem Zap.sep {z TI TO i1 i2 : Addr} {p q : Zs} (D : Zap z TI TO i1 i2 p q) : ZipSep2 z TI TO i1 i2 (p.fp i1) (q.fp i2) where
  TIz := D.TIz
  TOz := D.TOz
  TITO := D.TITO
  TIi1 := D.TIi1
  mem1 := by cases p <;> exact List.mem_cons_self
  zf1 := Zs.mem_fp D.zi1 D.pz
  Tf1 := Zs.mem_fp D.Ti1 D.pT
  TIi2 := D.TIi2
  mem2 := by cases q <;> exact List.mem_cons_self
  zf2 := Zs.mem_fp D.zi2 D.qz
  Tf2 := Zs.mem_fp D.Ti2 D.qT
  sep1_2 := Zs.mem_fp D.i12 D.q1
  sep2_1 := Zs.mem_fp D.i12.symm D.p2
/-- the items of both as they stand at each turn, in new pairs -/
def ItzM (K : PySem.W.Frag) (p q : Zs) : It :=
  ⟨fun i H => ∃ (xs ys : List V), p.has K H xs ∧ q.has K H ys ∧ i < xs.length ∧ i < ys.length,
    fun i H v H' => ∃ T x y, v = .ref T ∧ H T = none ∧ H' = upd H T (.tup [x, y]) ∧ (∀ xs, p.has K H xs → xs[i]? = some x) ∧ ∀ ys, q.has K H ys → ys[i]? = some y,
    fun i H => ∃ xs ys : List V, p.has K H xs ∧ q.has K H ys ∧ i ≤ xs.length ∧ i ≤ ys.length ∧ (i = xs.length ∨ i = ys.length)⟩
theorem turn_zipM {P : Program} {w : World} {K : PySem.W.Frag} {elts : List Expr} {kk : Nat} {tpos : Pos} {z TI TO i1 i2 : Addr} {p' q' : Zs} (D : Zap z TI TO i1 i2 p' q') :
    Turn P w K (.Tuple elts kk tpos) (ItzM K p' q') [z, TI, TO, i1, i2] z (fun i h => IsZip h z TI TO .none ∧ IsTupOf2 h TI (.ref i1) (.ref i2) ∧ (∃ x y, IsTupOf2 h TO x y) ∧ p'.it h i1 i ∧ q'.it h i2 i) where
  mem := by simp
  obj := fun i h st c hc => by
    obtain ⟨hz, hTI, ⟨x, y, hTO⟩, h1, h2⟩ := st
    have e' : c = z ∨ c = TI ∨ c = TO ∨ c = i1 ∨ c = i2 := by simpa using hc
    rcases e' with q | q | q | q | q
    · rw [q]; exact ⟨_, hz, fun v q => nomatch q⟩
    · rw [q]; exact ⟨_, hTI, fun v q => nomatch q⟩
    · rw [q]; exact ⟨_, hTO, fun v q => nomatch q⟩
    · rw [q]; exact Zs.obj (p := p') h1
    · rw [q]; exact Zs.obj (p := q') h2
  keep := fun i h h' st k => by
    obtain ⟨hz, hTI, ⟨x, y, hTO⟩, h1, h2⟩ := st
    exact ⟨k z (by simp) _ hz, k TI (by simp) _ hTI, ⟨x, y, k TO (by simp) _ hTO⟩, Zs.at (p := p') h1 fun o q => k i1 (by simp) o q, Zs.at (p := q') h2 fun o q => k i2 (by simp) o q⟩
  item := by
    intro X hP hw hK hc i pins s σ H E I hf st hg
    subst hP hw hK
    obtain ⟨hz, hTI, ⟨x0, y0, hTO⟩, h1, h2⟩ := st
    obtain ⟨xs, ys, hqx, hqy, hi1, hi2⟩ := hg
    obtain ⟨n1, P1, St1, D1, s1, e1, r1, w1⟩ := Zs.draws hc I hqx h1 D.p1
    obtain ⟨n2, P2, St2, D2, s2, e2, r2, w2⟩ := Zs.draws hc I hqy h2 D.q2
    have hx : xs[i]? = some xs[i] := List.getElem?_eq_getElem hi1
    have hy : ys[i]? = some ys[i] := List.getElem?_eq_getElem hi2
    have hzl : z < s.heap.objs.size := Heap.lt_size hz
    have l1 : i1 < s.heap.objs.size := by obtain ⟨_, e⟩ := D1.live _ _ s1; exact Heap.lt_size e
    have l2 : i2 < s.heap.objs.size := by obtain ⟨_, e⟩ := D2.live _ _ s2; exact Heap.lt_size e
    refine wpAny_pyNext_zipD2_item D.sep D1 D2 hz hTI hTO s1 s2 (by omega) (by omega) fun u u2 h' tk y1 y2 z' TO' h1' h2' hT hsz hk => ?_
    refine ⟨_, rfl, wpAny_letOwnedTupleGo_zip (s := { s with heap := h', toks := tk }) z' fun h'' z'' sb => ?_⟩
    have hT2 : h''.get? s.heap.objs.size = some { cls := .type "tuple", data := .seq #[u, u2] } := (sb.2 _ (Nat.ne_of_gt hzl)).trans hT
    have ru := r1 _ _ y1 hx
    have ru2 := r2 _ _ y2 hy
    have new : ObjOk X.prog X.w (upd H s.heap.objs.size (.tup [xs[i], ys[i]])) h'' s.heap.objs.size (.tup [xs[i], ys[i]]) :=
      ⟨by show 2 ≤ sizeLine; decide, [u, u2], .cons ru (.cons ru2 .nil), ⟨_, hT2, rfl, _, rfl⟩⟩
    have I1 : Inv X pins σ (upd H s.heap.objs.size (.tup [xs[i], ys[i]])) { s with heap := h'', toks := tk } :=
      I.turnedNew (t' := tk) (ch := [z, TI, TO, i1, i2]) (fun c o hb q => (sb.2 c (fun z => hb (by simp [z]))).trans (hk c o (fun z => hb (by simp [z])) (fun z => hb (by simp [z])) (fun z => hb (by simp [z])) (fun z => hb (by simp [z])) q)) hf (Nat.le_refl _) new
    refine ⟨.ref s.heap.objs.size, _, I1, rfl, ⟨_, xs[i], ys[i], rfl, I.hok.fresh (Nat.le_refl _), rfl, fun l hl => by rw [Zs.one rfl I hl hqx]; exact hx, fun l hl => by rw [Zs.one rfl I hl hqy]; exact hy⟩, ⟨z'', ?_, ⟨u, u2, ?_⟩, ?_, ?_⟩, fun c hcm => ?_⟩
    · exact (sb.2 _ D.TIz).trans (hk _ _ D.TIz D.TITO D.TIi1 D.TIi2 hTI)
    · exact (sb.2 _ D.TOz).trans TO'
    · exact Zs.at (w1 _ _ h1') fun o q => (sb.2 _ D.zi1.symm).trans q
    · exact Zs.at (w2 _ _ h2') fun o q => (sb.2 _ D.zi2.symm).trans q
    · have hlt : c < s.heap.objs.size := by
        have e' : c = z ∨ c = TI ∨ c = TO ∨ c = i1 ∨ c = i2 := by simpa using hcm
        rcases e' with q | q | q | q | q
        · rw [q]; exact hzl
        · rw [q]; exact Heap.lt_size hTI
        · rw [q]; exact Heap.lt_size hTO
        · rw [q]; exact l1
        · rw [q]; exact l2
      rw [upd_ne (Nat.ne_of_lt hlt)]
      exact (hf c hcm).1
  done := by
    intro X hP hw hK hc i pins s σ H E I hf st hg
    subst hP hw hK
    obtain ⟨hz, hTI, ⟨x0, y0, hTO⟩, h1, h2⟩ := st
    obtain ⟨xs, ys, hqx, hqy, hi1, hi2, hend⟩ := hg
    obtain ⟨n1, P1, St1, D1, s1, e1, r1, w1⟩ := Zs.draws hc I hqx h1 D.p1
    obtain ⟨n2, P2, St2, D2, s2, e2, r2, w2⟩ := Zs.draws hc I hqy h2 D.q2
    exact wpAny_pyNext_zipD2_end D.sep D1 D2 hz hTI hTO s1 s2 (by omega) (by omega) (by omega) fun h' tk hk => ⟨rfl, I.turnedL (t' := tk) (ch := [z, TI, TO, i1, i2]) (fun c o hb q =>
      hk c o (fun z => hb (by simp [z])) (fun z => hb (by simp [z])) (fun z => hb (by simp [z])) (fun z => hb (by simp [z])) q) hf⟩
  self := fun A i s Q E st h => wpAny_pyIter_zip st.1 h
/-- how such a walk begins -/
theorem Zs.begins {X : Cx} {pins : List (Addr × Obj)} {σ : L2.St} {H : Hp} {s : Shared} {p : Zs} {xs : List V} {u : Value} (I : Inv X pins σ H s) (h : p.has X.K H xs) (r : RelV p.v u) :
    ∃ (o : Obj) (B : Heap → Prop), Begins u o B ∧ B s.heap ∧ (∀ (h' : Heap) i, h'.get? i = some o → p.it h' i 0) ∧ ∀ c, s.heap.objs.size ≤ c → p.off c := by
  cases p with
  | L a =>
    cases r
    obtain ⟨its, rv, q, _⟩ := I.list h
    exact ⟨_, _, begins_list a its.toArray, q.isList, fun h' i e => ⟨_, e, rfl, rfl⟩, fun c hc e => by
      have l := q.lt
      have e : a = c := e
      rw [e] at l
      exact Nat.lt_irrefl _ (Nat.lt_of_lt_of_le l hc)⟩
  | T a =>
    cases r
    obtain ⟨its, rv, q, _⟩ := I.tuple h
    have l : a < s.heap.objs.size := by obtain ⟨_, e, _⟩ := id q; exact Heap.lt_size e
    exact ⟨_, _, begins_tuple a its.toArray, q, fun h' i e => ⟨_, e, rfl, rfl⟩, fun c hc e => by
      have e : a = c := e
      rw [e] at l
      exact Nat.lt_irrefl _ (Nat.lt_of_lt_of_le l hc)⟩
  | S x =>
    obtain ⟨t, rfl⟩ := r
    exact ⟨_, _, begins_text x t, trivial, fun h' i e => ⟨t, _, e, rfl, rfl⟩, fun c hc => trivial⟩
def iZipM (K : PySem.W.Frag) (ta : TA) : TI := fun σ H R => ta σ H fun vs H1 => ∃ (p q : Zs) (xs ys : List V), vs = [p.v, q.v] ∧ p.has K H1 xs ∧ q.has K H1 ys ∧ R (ItzM K p q) H1
theorem pi_zipM {X : Cx} {e e2 : Expr} {ta : TA} {p pos tpos : Pos} {elts : List Expr} {kk : Nat} (hg : Gl X "zip") (hm : X.mg "zip" = none) (ha : PA X [e, e2] ta)
    (hs : starEach [e, e2] X.env = (false, eval e X.env) :: starEach [e2] X.env := by rfl) (hpl : (backTo pos (starEach [e2] X.env)).any (·.1) = false := by rfl) :
    PI X (.Tuple elts kk tpos) (.Call (.Name "zip" p) [e, e2] [] pos) (iZipM X.K ta) := by
  refine ⟨fun pins s σ H R I h => ?_⟩
  refine Call_ (ld_blt I hg hm PyProof.Rows.boot_zip (PyProof.Rows.callWith_type1 (thn (ha.run pos pins s σ H _ I h) fun us s1 ⟨vs, H1, I1, r1, q1⟩ => ?_) hs hpl))
  obtain ⟨a, b, xs, ys, ex, hqx, hqy, q⟩ := q1
  subst ex
  cases r1 with
  | cons r rr =>
    cases rr with
    | cons r' rr =>
      cases rr
      obtain ⟨o1, B1, b1, g1, i1, f1⟩ := Zs.begins I1 hqx r
      obtain ⟨o2, B2, b2, g2, i2, f2⟩ := Zs.begins I1 hqy r'
      refine zip_begins2 b1 b2 g1 g2 fun h' hz hTI hTO h1 h2 hsz hk => wpAny_pyIter_zip hz ?_
      have I2 : Inv X pins σ H1 { s1 with heap := h' } := I1.kept (t' := s1.toks) hk
      refine ⟨s1.heap.objs.size + 4, [s1.heap.objs.size + 4, s1.heap.objs.size + 2, s1.heap.objs.size + 3, s1.heap.objs.size, s1.heap.objs.size + 1], _, _, H1, rfl, I2,
        turn_zipM (p' := a) (q' := b) ⟨(by intro e; have e2 : (_ : Nat) = _ := e; omega), (by intro e; have e2 : (_ : Nat) = _ := e; omega), (by intro e; have e2 : (_ : Nat) = _ := e; omega), (by intro e; have e2 : (_ : Nat) = _ := e; omega), (by intro e; have e2 : (_ : Nat) = _ := e; omega), (by intro e; have e2 : (_ : Nat) = _ := e; omega), (by intro e; have e2 : (_ : Nat) = _ := e; omega), (by intro e; have e2 : (_ : Nat) = _ := e; omega), (by intro e; have e2 : (_ : Nat) = _ := e; omega), (by intro e; have e2 : (_ : Nat) = _ := e; omega), f1 _ (by omega), f1 _ (by omega), f1 _ (by omega), f1 _ (by omega), f2 _ (by omega), f2 _ (by omega), f2 _ (by omega), f2 _ (by omega)⟩,
        ⟨hz, hTI, ⟨_, _, hTO⟩, i1 _ _ h1, i2 _ _ h2⟩, fun c hcm => ?_, q⟩
      have e' : c = s1.heap.objs.size + 4 ∨ c = s1.heap.objs.size + 2 ∨ c = s1.heap.objs.size + 3 ∨ c = s1.heap.objs.size ∨ c = s1.heap.objs.size + 1 := by simpa using hcm
      have hle : s1.heap.objs.size ≤ c := by
        rcases e' with z | z | z | z | z
        · rw [z]; exact Nat.le_add_right _ _
        · rw [z]; exact Nat.le_add_right _ _
        · rw [z]; exact Nat.le_add_right _ _
        · rw [z]; exact Nat.le_refl _
        · rw [z]; exact Nat.le_add_right _ _
      exact I1.fpOk hle (I1.hok.fresh hle)
theorem walk_zipM {K : PySem.W.Frag} {p q : Zs} {xs ys : List V} {n : Nat} (hn : n = min xs.length ys.length) : Walk (ItzM K p q) n (fun H => p.has K H xs ∧ q.has K H ys) (YPair (fun i => xs[i]?) (fun i => ys[i]?)) := by
  subst hn
  refine ⟨fun i _ hi h => ⟨xs, ys, h.1, h.2, by omega, by omega⟩, fun _ h => ⟨xs, ys, h.1, h.2, by omega, by omega, by omega⟩, fun i H v H' _ h y => ?_⟩
  obtain ⟨T, x, z, h1, h2, h3, h4, h5⟩ := y
  exact ⟨T, x, z, h1, h2, h3, h4 xs h.1, h5 ys h.2⟩
end Vf

set_option Elab.async false
set_option linter.all false
set_option maxRecDepth 100000
set_option maxHeartbeats 4000000
namespace Vf
open PySem PySem.Spec PyProof.Rows L2 TL
/-- a strip with these signs and this cover -/
def LnV (H : Hp) (x : V) (c : List Nat × List Nat) : Prop := ∃ s, StpV H x s ∧ (s.1, s.2.1) = c
theorem LnV.kt {H H' : Hp} {x : V} {c : List Nat × List Nat} (h : LnV H x c) (k : ∀ a xs, H a = some (.tup xs) → H' a = some (.tup xs)) : LnV H' x c := by
  obtain ⟨s, h1, h2⟩ := h
  exact ⟨s, h1.kt k, h2⟩
theorem if_one {c : TT} {a b : TE} {σ : L2.St} {H : Hp} {Q : VK} {p : Prop} [Decidable p] {x : V} (hc : ∀ R : Bool → Hp → Prop, R (decide p) H → c σ H R) (ha : p → ∀ R : VK, R x H → a σ H R) (hb : ¬ p → ∀ R : VK, R x H → b σ H R) (q : Q x H) : tIf c a b σ H Q := by
  refine hc _ ?_
  by_cases h : p
  · rw [decide_eq_true h]
    exact ha h _ q
  · rw [decide_eq_false h]
    exact hb h _ q
theorem ifs_or {a b : TT} {s t : TS} {D : Ends} {σ : L2.St} {H : Hp} {p q : Prop} [Decidable p] [Decidable q] (ha : ∀ Q : Bool → Hp → Prop, Q (decide p) H → a σ H Q) (hb : ∀ Q : Bool → Hp → Prop, Q (decide q) H → b σ H Q)
    (h1 : p ∨ q → s D σ H) (h2 : ¬ (p ∨ q) → t D σ H) : tIfS (tOr a b) s t D σ H := by
  refine ha _ ?_
  by_cases c : p
  · rw [decide_eq_true c]
    exact h1 (.inl c)
  · rw [decide_eq_false c]
    refine hb _ ?_
    by_cases c2 : q
    · rw [decide_eq_true c2]
      exact h1 (.inr c2)
    · rw [decide_eq_false c2]
      exact h2 fun z => z.elim c c2
section
variable {P : Program} {w : World} {K : PySem.W.Frag} {mg : Str → Option Value} {base : Heap}
def spPlaced : Sp := fun vs H Q _ => ∃ (x : V) (s : Stp) (l M : Nat), vs = [x, nV l, nV M] ∧ StpV H x s ∧ EqL' s ∧ M ≤ 20000 ∧ l + s.1.length ≤ M ∧ ∀ H' y, Same H H' → StpV H' y (plS l s M) → Q y H'
theorem ok_placed (T : Txt K mg) : FnOk P w K mg base CX0 3 T.a_placed T.d_placed ["strip", "left", "width"] spPlaced := by
  have G_joined : FnOk P w K mg base CX0 1 T.a_joined T.d_joined ["strips"] spJoined := ok_joined T
  have G_blank_strip : FnOk P w K mg base CX0 2 T.a_blank_strip T.d_blank_strip ["width"] spBlank := ok_blank T
  refine T.D_placed.F.ok sc_placed (fun vs H Q E h => ?_) (fun cdv A outer s H vs Q E hr h => ?_)
  · obtain ⟨_, _, _, _, rfl, _⟩ := h
    rfl
  · obtain ⟨x, s, l, M, rfl, sv, eq, hM, hl, q⟩ := h
    refine ⟨_, (pss_one (ps_ret (pe_call G_joined (hr.mono (by decide)) (by rfl) T.D_joined.G T.D_joined.F.kp T.D_joined.B .nil pass0 (pa_cons (pe_lst (pa_cons (pe_call G_blank_strip (hr.mono (by decide)) (by rfl) T.D_blank_strip.G T.D_blank_strip.F.kp T.D_blank_strip.B .nil pass0 (pa_cons (pv 1) pa_nil)) (pa_cons (pv 0) (pa_cons (pe_call G_blank_strip (hr.mono (by decide)) (by rfl) T.D_blank_strip.G T.D_blank_strip.F.kp T.D_blank_strip.B .nil pass0 (pa_cons (pe_op op_sub (pe_op op_sub (pv 2) (pv 1)) (pe_callB call_len_str (by rfl) T.n_len PySem.boot_len (pa_cons (pe_ix ix_tup (pv 0) pe_int (fun _ _ => rfl)) pa_nil))) pa_nil)) pa_nil)))) pa_nil)))), ?_⟩
    refine ⟨_, rfl, l, rfl, by omega, fun H1 b1 k1 s1 => ?_⟩
    refine ⟨_, rfl, ?_⟩
    have sv1 := sv.kt (same_tup k1)
    obtain ⟨b, t, us, rfl, eb, et, lt⟩ := id sv1
    have hb : (mkS s.1).length ≤ sizeLine := by rw [mkS_len]; exact big_ok (by omega)
    refine ⟨_, rfl, _, rfl, _, _, rfl, rfl, _, rfl, b, _, 0, _, rfl, rfl, SqT.of eb, rfl, _, rfl, hb, _, _, rfl, rfl, ?_⟩
    refine ⟨M - l - s.1.length, ?_, by omega, fun H2 b2 k2 s2 => ?_⟩
    · rw [mkS_len]
      exact congrArg (fun z => [V.int z]) (by omega)
    refine ⟨by show 3 ≤ sizeLine; decide, fun L nL => ?_⟩
    have k3 := same_upd (o := .lst [b1, .ref b, b2]) (Same.refl H2) nL
    have eL : upd H2 L (.lst [b1, .ref b, b2]) L = some (.lst [b1, .ref b, b2]) := upd_same
    generalize upd H2 L (.lst [b1, .ref b, b2]) = H3 at k3 eL
    refine ⟨L, _, [blankS l, s, blankS (M - l - s.1.length)], rfl, eL, ?_, pl_ok eq hM hl, fun H4 y k4 hy => q H4 y (((k1.trans k2).trans k3).trans k4) hy⟩
    exact LV.snoc (vs := [b1, .ref b]) (rs := [blankS l, s]) (LV.snoc (vs := [b1]) (rs := [blankS l]) (LV.snoc LV.nil (s1.kt (same_tup (k2.trans k3)))) (sv1.kt (same_tup (k2.trans k3)))) (s2.kt (same_tup k3))
def spBare : Sp := fun vs H Q _ => ∃ (t : Addr) (us : List V) (cs : List (List Nat × List Nat)), vs = [.ref t] ∧ H t = some (.tup us) ∧ LV (LnV H) us cs ∧ cs.length ≤ 1000 ∧ ∀ H' p ws, Same H H' → H' p = some (.tup ws) → LV (CvV H') ws cs → Q (.ref p) H'
theorem ok_bare (T : Txt K mg) : FnOk P w K mg base CX0 1 T.a_bare T.d_bare ["strips"] spBare := by
  refine T.D_bare.F.ok sc_bare (fun vs H Q E h => ?_) (fun cdv A outer s H vs Q E hr h => ?_)
  · obtain ⟨_, _, _, rfl, _⟩ := h
    rfl
  · obtain ⟨t, us, cs, rfl, et, lv, ln, q⟩ := h
    have lus := lv.1
    refine ⟨_, (pss_one (ps_ret (pe_callTy call_tuple_of (by rfl) T.n_tuple (by decide +kernel) (pa_cons (pe_lc (own := [("strip", 1)]) (g := gName 1) (tt := tYes) rfl sc_bare.nd (pi_tup (pv 0)) (blkOk_by (own := [("strip", 1)]) (N := ["strips", "strip"]) (sc := (defScope s_bare)) (by decide +kernel)) (fun _ _ _ _ _ => (pg_name (i := 1) sc_bare.nd rfl (.inl rfl))) (fun _ _ _ _ _ => pts_nil) (fun _ _ _ _ _ => (pe_slice (r := rSlA K) sl_tupA (pv 1) po_none (po_some pe_int)))) pa_nil)))), ?_⟩
    refine ⟨_, rfl, t, rfl, ⟨_, SqT.of et⟩, fun D nD => ?_⟩
    refine lc_it (walk_tup (K := K) (a := t) (xs := us)) (fun n H' => ∃ ws, Same H H' ∧ H' D = some (.lst ws) ∧ LV (CvV H') ws (cs.take n)) ⟨[], same_upd (Same.refl H) nD, upd_same, LV.nil⟩ ?_ ?_ ?_
    · rintro i H' _ ⟨_, k, _⟩
      exact SqT.of (k _ _ et)
    · rintro n x Ha H2 hn ⟨ws, k2, eD, lw⟩ ⟨rfl, hx⟩
      obtain ⟨cv, est, st, ⟨b, tt, ts, rfl, eb, ett, ltt⟩, rfl⟩ := lv.at hx
      have lwl := lw.1
      rw [List.length_take] at lwl
      refine ⟨rfl, _, rfl, 2, rfl, slA_any (k2 _ _ eb) fun C H3 k3 eC => ?_⟩
      have eD3 := k3 _ _ eD
      have kt := kt_mut (zs := ws ++ [V.ref C]) eD3
      refine ⟨ws, eD3, szN (by omega), ws ++ [.ref C], same_mut (k2.trans k3) nD, upd_same, ?_⟩
      rw [show cs.take (n + 1) = cs.take n ++ [(st.1, st.2.1)] by rw [List.take_succ, est]; rfl]
      exact LV.snoc (lw.mono fun _ _ z => z.kt fun a xs e => kt _ _ (k3 _ _ e)) ⟨C, rfl, kt _ _ eC⟩
    rintro H2 ⟨ws, k2, eD, lw⟩
    rw [lus, List.take_length] at lw
    refine ⟨D, ws, rfl, .inl ⟨SqL.of eD, fun p np => ?_⟩⟩
    exact q _ p ws (same_upd k2 np) upd_same (lw.mono fun _ _ z => z.kt (kt_new np))
def spPcs : Sp := fun vs H Q _ => ∃ (v : V) (wa xb ye : Addr) (ws : List V) (S : Sty) (Y : List (List Nat × Nat)) (i k j m : Nat), vs = [v, .ref wa, .ref xb, .ref ye] ∧ StyV H v S ∧ StyOk S ∧ H wa = some (.tup ws) ∧ LV (WkV H) ws Y ∧ Y.length ≤ 40 ∧ (∀ z ∈ wdsY Y, WdOk z) ∧ (∀ z ∈ wdsY Y, 0 < z.length) ∧ H xb = some (.tup [nV i, nV k]) ∧ H ye = some (.tup [nV j, nV m]) ∧ TwoP S (wdsY Y) (i, k) (j, m) ∧
  ∀ H' L us, Same H H' → H' L = some (.lst us) → LV (StpV H') us ((List.range (pcsN (i, k) (j, m))).map (pcA S Y (i, k) (j, m))) → Q (.ref L) H'
theorem ok_pcs (T : Txt K mg) : FnOk P w K mg base CX0 7 T.a_pieces_of_line T.d_pieces_of_line ["style", "words", "begin", "end"] spPcs := by
  have G_piece_strip : FnOk P w K mg base CX0 6 T.a_piece_strip T.d_piece_strip ["style", "word", "struck", "first", "last"] spPiece := ok_piece T
  refine T.D_pieces_of_line.F.ok sc_pieces_of_line (fun vs H Q E h => ?_) (fun cdv A outer s H vs Q E hr h => ?_)
  · obtain ⟨_, _, _, _, _, _, _, _, _, _, _, rfl, _⟩ := h
    rfl
  · obtain ⟨v, wa, xb, ye, ws, S, Y, i, k, j, m, rfl, sv, st, ew, lw, l40, wd, h0, ex, ey, two, q⟩ := h
    have tp := two_pos two
    rw [wdsY_len] at tp
    have hij : i ≤ j ∧ j ≤ Y.length := by
      have := two.1
      rw [wdsY_len] at this
      have this : i < Y.length := this
      rcases two.2.2 with h | h
      · have : i = j := h.1
        omega
      · have h1 : i < j := h.1
        rcases h.2 with e | e
        · have e := (Prod.mk.inj e).1
          rw [wdsY_len] at e
          have e : j = Y.length := e
          omega
        · have e := e.1
          rw [wdsY_len] at e
          have e : j < Y.length := e
          omega
    refine ⟨_, (pss_cons (ps_set (i := 4) sc_pieces_of_line.nd rfl (.inl rfl) (pe_lst pa_nil))
      (pss_cons (ps_for PassesOwn.never rfl (pi_range2 (by rfl) T.n_range (pa_cons (pe_ix ix_tup (pv 2) pe_int (fun _ _ => rfl)) (pa_cons (pe_op op_add (pe_ix ix_tup (pv 3) pe_int (fun _ _ => rfl)) pe_int) pa_nil))) (pg_name (i := 5) sc_pieces_of_line.nd rfl (.inl rfl)) (pss_one (ps_if (PW.pt (pw_or (pt_cmpR op_lt (pv 5) (pe_ix ix_tup (pv 3) pe_int (fun _ _ => rfl)) (nomark _)) (pw_or1 (pt_cmpR op_gt (pe_ix ix_tup (pv 3) pe_int (fun _ _ => rfl)) pe_int (nomark _))))) (pss_cons (ps_asg (pe_ix ix_tup (pv 1) (pv 5) (fun _ _ => rfl)) (pg_tup (by rfl) (pgs_cons (pg_name (i := 6) sc_pieces_of_line.nd rfl (.inl rfl)) (pgs_cons (pg_name (i := 7) sc_pieces_of_line.nd rfl (.inl rfl)) pgs_nil))))
      (pss_cons (ps_set (i := 8) sc_pieces_of_line.nd rfl (.inl rfl) (pe_ifExp (pt_cmpR op_eq (pv 5) (pe_ix ix_tup (pv 2) pe_int (fun _ _ => rfl)) (nomark _)) (pe_ix ix_tup (pv 2) pe_int (fun _ _ => rfl)) pe_int))
      (pss_cons (ps_set (i := 9) sc_pieces_of_line.nd rfl (.inl rfl) (pe_ifExp (pt_cmpR op_eq (pv 5) (pe_ix ix_tup (pv 3) pe_int (fun _ _ => rfl)) (nomark _)) (pe_ix ix_tup (pv 3) pe_int (fun _ _ => rfl)) pe_int))
      (pss_one (ps_expr (pe_bm PySem.F.plainAttrs_list PySem.F.slot_list_append PySem.F.type_list_append mt_append (pv 4) (pa_cons (pe_call G_piece_strip (hr.mono (by decide)) (by rfl) T.D_piece_strip.G T.D_piece_strip.F.kp T.D_piece_strip.B .nil pass0 (pa_cons (pv 0) (pa_cons (pv 6) (pa_cons (pv 7) (pa_cons (pv 8) (pa_cons (pv 9) pa_nil)))))) pa_nil))))))) pss_nil)))
      (pss_one (ps_ret (pv 4))))), ?_⟩
    refine ⟨by show 0 ≤ sizeLine; decide, fun D nD => ?_⟩
    have k1 := same_upd (o := .lst []) (Same.refl H) nD
    have eD : upd H D (.lst []) D = some (.lst []) := upd_same
    generalize upd H D (.lst []) = H1 at k1 eD
    refine ⟨_, rfl, xb, _, 0, _, rfl, rfl, SqT.of (k1 _ _ ex), rfl, _, rfl, ye, _, 0, _, rfl, rfl, SqT.of (k1 _ _ ey), rfl, _, _, rfl, rfl, (i : Int), (j : Int) + 1, rfl, by omega, ?_⟩
    have en : ((j : Int) + 1 - (i : Int)).toNat = j + 1 - i := by omega
    rw [en]
    refine for_it walk_range (fun n σ' H' => ∃ (x5 x6 x7 x8 x9 : Option V) (us : List V), σ' = [some v, some (.ref wa), some (.ref xb), some (.ref ye), some (.ref D), x5, x6, x7, x8, x9] ∧ Same H H' ∧ H' D = some (.lst us) ∧ LV (StpV H') us ((List.range (min n (pcsN (i, k) (j, m)))).map (pcA S Y (i, k) (j, m)))) ⟨_, _, _, _, _, [], rfl, k1, eD, by rw [Nat.zero_min]; exact LV.nil⟩ (fun _ _ _ _ _ => trivial) ?_ ?_
    · rintro n x σ' H0 H2 hn ⟨x5, x6, x7, x8, x9, us, rfl, k2, eD2, lu⟩ ⟨rfl, hx⟩
      have hx : x = nV (i + n) := by rw [hx]; exact congrArg V.int (by omega)
      subst hx
      have ex2 := k2 _ _ ex
      have ey2 := k2 _ _ ey
      have hc : (n < pcsN (i, k) (j, m)) ↔ (i + n < j ∨ 0 < m) := by
        unfold pcsN
        show n < j - i + _ ↔ _
        by_cases c : 0 < m
        · rw [if_pos c]; omega
        · rw [if_neg c]; omega
      have lul := lu.1
      rw [List.length_map, List.length_range] at lul
      refine ifs_or (p := ((i + n : Nat) : Int) < (j : Int)) (q := (0 : Int) < (m : Int)) (fun Q h => ⟨_, rfl, _, rfl, ye, _, 0, _, rfl, rfl, SqT.of ey2, rfl, _, _, rfl, rfl, _, rfl, h⟩) (fun Q h => ⟨_, rfl, ye, _, 1, _, rfl, rfl, SqT.of ey2, rfl, _, _, rfl, rfl, _, rfl, h⟩) (fun c => ?_) (fun c => ?_)
      · have c : i + n < j ∨ 0 < m := by omega
        have hlt := hc.mpr c
        have ⟨t1, t2, t3, t4⟩ := two_t two hlt
        rw [wdsY_len] at t1
        have t1 : i + n < Y.length := t1
        obtain ⟨xw, exw, bw, rfl, ebw⟩ := lw.2 _ _ (y_at t1)
        have hmem : wz (wdsY Y) (i + n) ∈ wdsY Y := wz_mem (by rw [wdsY_len]; exact t1)
        refine ⟨_, rfl, _, rfl, wa, _, _, _, rfl, rfl, SqT.of (k2 _ _ ew), atI_nat exw, bw, _, rfl, SqT.of (k2 _ _ ebw), rfl, _, _, rfl, _, _, rfl, rfl, ?_⟩
        dsimp only [tSeq, tAsg]
        refine if_one (p := nV (i + n) = nV i) (x := nV (kkA k n)) (fun R h => ⟨_, rfl, _, rfl, xb, _, 0, _, rfl, rfl, SqT.of ex2, rfl, rfl, _, rfl, h⟩) (fun c R h => ?_) (fun c R h => ?_) ?_
        · have c : i + n = i := Int.ofNat.inj (V.int.inj c)
          have c : n = 0 := by omega
          subst c
          exact ⟨_, rfl, xb, _, 1, _, rfl, rfl, SqT.of ex2, rfl, h⟩
        · have c : n ≠ 0 := fun z => c (by rw [z]; rfl)
          have e : kkA k n = 0 := if_neg c
          rw [e] at h
          exact h
        dsimp only [gName]
        refine if_one (p := nV (i + n) = nV j) (x := nV (mkM (j, m) (i + n))) (fun R h => ⟨_, rfl, _, rfl, ye, _, 0, _, rfl, rfl, SqT.of ey2, rfl, rfl, _, rfl, h⟩) (fun c R h => ?_) (fun c R h => ?_) ?_
        · have c : i + n = j := Int.ofNat.inj (V.int.inj c)
          have e : mkM (j, m) (i + n) = m := if_pos c
          rw [e] at h
          exact ⟨_, rfl, ye, _, 1, _, rfl, rfl, SqT.of ey2, rfl, h⟩
        · have c : i + n ≠ j := fun z => c (by rw [z])
          have e : mkM (j, m) (i + n) = 0 := if_neg c
          rw [e] at h
          exact h
        refine ⟨.ref D, rfl, .inl ⟨rfl, _, .inl (.inl eD2)⟩, ?_⟩
        refine ⟨_, rfl, _, rfl, _, rfl, _, rfl, _, rfl, v, S, wz (wdsY Y) (i + n), skN Y (i + n), kkA k n, mkM (j, m) (i + n), rfl, sv.mono (same_tup k2), st, wd _ hmem, h0 _ hmem, t2, t3, t4, fun H3 x k3 hx => ?_⟩
        have eD3 := k3 _ _ eD2
        have kt := kt_mut (zs := us ++ [x]) eD3
        refine ⟨D, us, x, rfl, rfl, eD3, szN (by omega), _, _, _, _, _, us ++ [x], rfl, same_mut (k2.trans k3) nD, upd_same, ?_⟩
        rw [show min (n + 1) (pcsN (i, k) (j, m)) = n + 1 by omega, List.range_succ, List.map_append]
        rw [show min n (pcsN (i, k) (j, m)) = n by omega] at lu
        exact LV.snoc (lu.mono fun _ _ z => z.kt fun a xs e => kt _ _ (k3 _ _ e)) (hx.kt kt)
      · have c : ¬ (i + n < j ∨ 0 < m) := by omega
        have hge := fun h => c (hc.mp h)
        refine ⟨_, _, _, _, _, us, rfl, k2, eD2, ?_⟩
        rw [show min (n + 1) (pcsN (i, k) (j, m)) = min n (pcsN (i, k) (j, m)) by omega]
        exact lu
    · rintro σ' H2 ⟨x5, x6, x7, x8, x9, us, rfl, k2, eD2, lu⟩
      rw [show min (j + 1 - i) (pcsN (i, k) (j, m)) = pcsN (i, k) (j, m) from Nat.min_eq_right (by unfold pcsN; show j - i + _ ≤ _; split <;> omega)] at lu
      exact ⟨_, rfl, q H2 D us k2 eD2 lu⟩
end
end Vf

set_option Elab.async false
set_option linter.all false
set_option maxRecDepth 100000
set_option maxHeartbeats 4000000
namespace Vf
open PySem PySem.Spec PyProof.Rows L2 TL
theorem fd_nat (a b : Nat) : Int.fdiv (a : Int) (b : Int) = ((a / b : Nat) : Int) := by
  rw [Int.fdiv_eq_ediv_of_nonneg _ (by omega)]; rfl
theorem gap_int (r n u : Nat) : (1 : Int) + Int.fdiv (((u + 1 : Nat) : Int) * (r : Int)) (n : Int) - Int.fdiv ((((u + 1 : Nat) : Int) - 1) * (r : Int)) (n : Int) = (gapF r n (u + 1) : Int) := by
  have e1 : ((u + 1 : Nat) : Int) * (r : Int) = (((u + 1) * r : Nat) : Int) := by rw [Int.natCast_mul]
  have e2 : (((u + 1 : Nat) : Int) - 1) * (r : Int) = ((u * r : Nat) : Int) := by rw [Int.natCast_mul]; congr 1; omega
  rw [e1, e2, fd_nat, fd_nat]
  unfold gapF
  rw [Nat.add_sub_cancel]
  have h := gap_le r n u
  generalize u * r / n = a at h ⊢
  generalize (u + 1) * r / n = b at h ⊢
  omega
theorem gs_ge (g : Nat → Nat) (u : Nat) : ∀ t, u < t → g (u + 1) ≤ gsT g t
  | 0, h => absurd h (Nat.not_lt_zero _)
  | t + 1, h => by
    show g (u + 1) ≤ gsT g t + g (t + 1)
    by_cases c : u = t
    · rw [c]; omega
    · have := gs_ge g u t (by omega)
      omega
theorem gap_small {r n u : Nat} (hn : u < n) (h : n + n * r / n ≤ 20000) : gapF r n (u + 1) ≤ 20000 := by
  have h1 := gs_ge (gapF r n) u n hn
  rw [gs_tel] at h1
  omega
theorem mid_div {r n : Nat} (h : 0 < n) : n * r / n = r := Nat.mul_div_cancel_left r h
theorem if_any {c : TT} {a b : TE} {σ : L2.St} {H : Hp} {Q : VK} {p : Prop} [Decidable p] {x : V} (hc : ∀ R : Bool → Hp → Prop, R (decide p) H → c σ H R) (ha : p → ∀ R : VK, (∀ H1, Same H H1 → R x H1) → a σ H R) (hb : ¬ p → ∀ R : VK, (∀ H1, Same H H1 → R x H1) → b σ H R) (q : ∀ H1, Same H H1 → Q x H1) : tIf c a b σ H Q := by
  refine hc _ ?_
  by_cases h : p
  · rw [decide_eq_true h]
    exact ha h _ q
  · rw [decide_eq_false h]
    exact hb h _ q
theorem dec_bl (b : Bool) : decide (b = true) = b := by cases b <;> rfl
section
variable {P : Program} {w : World} {K : PySem.W.Frag} {mg : Str → Option Value} {base : Heap}
/-- the spare of a line: nothing if it is loose -/
def rstF (loose : Bool) (M nat : Nat) : Nat := if loose = true then 0 else M - nat
def spStrip : Sp := fun vs H Q _ => ∃ (L : Addr) (us : List V) (p : Nat → Stp) (n M : Nat) (loose : Bool), vs = [.ref L, nV M, .bl loose] ∧ H L = some (.lst us) ∧ LV (StpV H) us ((List.range (n + 1)).map p) ∧ (∀ t, EqL (p t)) ∧ n ≤ 40 ∧ M ≤ 20000 ∧ swT p (n + 1) + n ≤ M ∧
  ∀ H' y s, Same H H' → StpV H' y s → (s.1, s.2.1) = lnC p n M (rstF loose M (swT p (n + 1) + n)) → Q y H'
theorem ok_strip (T : Txt K mg) : FnOk P w K mg base CX0 4 T.a_line_strip T.d_line_strip ["pieces", "measure", "loose"] spStrip := by
  have G_joined : FnOk P w K mg base CX0 1 T.a_joined T.d_joined ["strips"] spJoined := ok_joined T
  have G_blank_strip : FnOk P w K mg base CX0 2 T.a_blank_strip T.d_blank_strip ["width"] spBlank := ok_blank T
  have G_placed : FnOk P w K mg base CX0 3 T.a_placed T.d_placed ["strip", "left", "width"] spPlaced := ok_placed T
  refine T.D_line_strip.F.ok sc_line_strip (fun vs H Q E h => ?_) (fun cdv A outer s H vs Q E hr h => ?_)
  · obtain ⟨_, _, _, _, _, _, rfl, _⟩ := h
    rfl
  · obtain ⟨L, us, p, n, M, loose, rfl, eL, lv, hp, n40, hM, hfit, q⟩ := h
    have lus := lv.1
    rw [List.length_map, List.length_range] at lus
    have rng : ∀ t, t < n + 1 → ((List.range (n + 1)).map p)[t]? = some (p t) := fun t ht => by rw [List.getElem?_map, List.getElem?_range ht]; rfl
    have hrf : swT p (n + 1) + n + n * (rstF loose M (swT p (n + 1) + n)) / n ≤ M := by
      unfold rstF
      by_cases c : 0 < n
      · rw [mid_div c]
        split <;> omega
      · have : n = 0 := by omega
        subst this
        rw [Nat.zero_mul, Nat.zero_div]; exact hfit
    obtain ⟨jk, eql, el⟩ := row_ok (r := rstF loose M (swT p (n + 1) + n)) hp n40 (Nat.le_trans hrf hM)
    have hpl : ∀ t, t < n + 1 → (p t).1.length ≤ 20000 := by
      have h : ∀ m t, t < m → (p t).1.length ≤ swT p m := fun m => by
        induction m with
        | zero => intro t h; omega
        | succ m ih =>
          intro t h
          show _ ≤ swT p m + (p m).1.length
          by_cases c : t = m
          · rw [c]; omega
          · have := ih t (by omega); omega
      intro t ht
      have := h _ t ht
      omega
    refine ⟨_, (pss_cons (ps_set (i := 3) sc_line_strip.nd rfl (.inl rfl) (pe_op op_sub (pe_callB call_len_seq (by rfl) T.n_len PySem.boot_len (pa_cons (pv 0) pa_nil)) pe_int))
      (pss_cons (ps_set (i := 4) sc_line_strip.nd rfl (.inl rfl) (pe_ifExp (pt_val (pv 2)) pe_int (pe_op op_sub (pe_op op_sub (pv 1) (pe_callB (cr_sum (by rfl)) (by rfl) T.n_sum (by decide +kernel) (pa_cons (pe_lc (own := [("piece", 7)]) (g := gName 7) (tt := tYes) rfl sc_line_strip.nd (pi_list (pv 0)) (blkOk_by (own := [("piece", 7)]) (N := ["pieces", "measure", "loose", "gaps", "rest", "row", "at", "piece"]) (sc := (defScope s_line_strip)) (by decide +kernel)) (fun _ _ _ _ _ => (pg_name (i := 7) sc_line_strip.nd rfl (.inl rfl))) (fun _ _ _ _ _ => pts_nil) (fun _ _ _ _ _ => (pe_callB call_len_str (by rfl) T.n_len PySem.boot_len (pa_cons (pe_ix (r := rIxT K) ix_tup (pv 7) pe_int (fun _ _ => rfl)) pa_nil)))) pa_nil))) (pv 3))))
      (pss_cons (ps_set (i := 5) sc_line_strip.nd rfl (.inl rfl) (pe_lst (pa_cons (pe_ix ix_list (pv 0) pe_int (fun _ _ => rfl)) pa_nil)))
      (pss_cons (ps_for PassesOwn.never rfl (pi_enumL1 (by rfl) T.n_enumerate (pa_cons (pe_slice sl_list (pv 0) (po_some pe_int) po_none) pa_nil)) (pg_tup (by rfl) (pgs_cons (pg_name (i := 6) sc_line_strip.nd rfl (.inl rfl)) (pgs_cons (pg_name (i := 7) sc_line_strip.nd rfl (.inl rfl)) pgs_nil))) (pss_cons (ps_expr (pe_bm PySem.F.plainAttrs_list PySem.F.slot_list_append PySem.F.type_list_append mt_append (pv 5) (pa_cons (pe_call G_blank_strip (hr.mono (by decide)) (by rfl) T.D_blank_strip.G T.D_blank_strip.F.kp T.D_blank_strip.B .nil pass0 (pa_cons (pe_op op_sub (pe_op op_add pe_int (pe_op op_fdivN (pe_op op_mul (pv 6) (pv 4)) (pv 3))) (pe_op op_fdivN (pe_op op_mul (pe_op op_sub (pv 6) pe_int) (pv 4)) (pv 3))) pa_nil)) pa_nil)))
      (pss_one (ps_expr (pe_bm PySem.F.plainAttrs_list PySem.F.slot_list_append PySem.F.type_list_append mt_append (pv 5) (pa_cons (pv 7) pa_nil))))))
      (pss_one (ps_ret (pe_call G_placed (hr.mono (by decide)) (by rfl) T.D_placed.G T.D_placed.F.kp T.D_placed.B .nil pass0 (pa_cons (pe_call G_joined (hr.mono (by decide)) (by rfl) T.D_joined.G T.D_joined.F.kp T.D_joined.B .nil pass0 (pa_cons (pv 5) pa_nil)) (pa_cons pe_int (pa_cons (pv 1) pa_nil)))))))))), ?_⟩
    refine ⟨_, rfl, L, us, rfl, .inl (SqL.of eL), _, _, rfl, rfl, ?_⟩
    dsimp only [tSeq, tAsg, gName]
    refine if_any (p := loose = true) (x := nV (rstF loose M (swT p (n + 1) + n))) (fun R h => ⟨_, rfl, loose, rfl, by rw [dec_bl] at h; exact h⟩) (fun c R h => ?_) (fun c R h => ?_) (fun H1 k1 => ?_)
    · have e : rstF loose M (swT p (n + 1) + n) = 0 := if_pos c
      rw [e] at h
      exact h H (Same.refl H)
    · have e : rstF loose M (swT p (n + 1) + n) = M - (swT p (n + 1) + n) := if_neg c
      rw [e] at h
      refine ⟨_, rfl, _, rfl, L, rfl, ⟨_, SqL.of eL⟩, fun D nD => ?_⟩
      refine lc_it (walk_list (K := K) (a := L) (xs := us)) (fun t H' => Same H H' ∧ ∃ ns : List Int, ns.length = t ∧ ns.sum = (swT p t : Int) ∧ H' D = some (.lst (ns.map V.int))) ⟨same_upd (Same.refl H) nD, [], rfl, rfl, upd_same⟩ ?_ ?_ ?_
      · rintro i H' _ ⟨k, _⟩
        exact SqL.of (k _ _ eL)
      · rintro t x Ha H2 ht ⟨k2, ns, l1, l2, l4⟩ ⟨rfl, hx⟩
        rw [lus] at ht
        obtain ⟨st, est, b, tt, ts, rfl, eb, ett, ltt⟩ := lv.at hx
        have est := Option.some.inj ((rng t ht).symm.trans est)
        subst est
        have hb : (mkS (p t).1).length ≤ sizeLine := by rw [mkS_len]; exact big_ok (by have := hpl t ht; omega)
        refine ⟨rfl, _, rfl, b, _, 0, _, rfl, rfl, SqT.of (k2 _ _ eb), rfl, _, rfl, hb, _, l4, by rw [List.length_map, l1]; exact lt_s (by omega), same_mut k2 nD, ns ++ [((p t).1.length : Int)], by rw [List.length_append, l1]; rfl, ?_, ?_⟩
        · rw [snocI, l2]; rfl
        · rw [upd_same, List.map_append, mkS_len]; rfl
      rintro H2 ⟨k2, ns, l1, l2, l4⟩
      rw [lus] at l2
      refine ⟨D, ns, rfl, SqL.of l4, _, _, rfl, rfl, _, rfl, _, _, rfl, rfl, ?_⟩
      have ev : (V.int ((M : Int) - ns.sum - ((us.length : Nat) - 1 : Int))) = nV (M - (swT p (n + 1) + n)) := congrArg V.int (by omega)
      show R (V.int ((M : Int) - ns.sum - ((us.length : Nat) - 1 : Int))) H2
      rw [ev]; exact h H2 k2
    · generalize rstF loose M (swT p (n + 1) + n) = r at *
      have e3 : V.int ((us.length : Int) - 1) = nV n := congrArg V.int (by omega)
      obtain ⟨x0, ex0, s0⟩ := lv.2 0 _ (rng 0 (by omega))
      refine ⟨_, rfl, L, _, 0, _, rfl, rfl, SqL.of (k1 _ _ eL), atI_nat (j := 0) ex0, by show 1 ≤ sizeLine; decide, fun Rw nRw => ?_⟩
      have k2 := same_upd (o := .lst [x0]) (Same.refl H1) nRw
      have eR : upd H1 Rw (.lst [x0]) Rw = some (.lst [x0]) := upd_same
      generalize upd H1 Rw (.lst [x0]) = H2 at k2 eR
      refine ⟨_, rfl, 1, rfl, L, us, rfl, SqL.of (k2 _ _ (k1 _ _ eL)), fun C nC => ?_⟩
      rw [cut_from1]
      have k3 := same_upd (o := .lst (us.drop 1)) (Same.refl H2) nC
      have eC : upd H2 C (.lst (us.drop 1)) C = some (.lst (us.drop 1)) := upd_same
      have eR3 := k3 _ _ eR
      generalize upd H2 C (.lst (us.drop 1)) = H3 at k3 eC eR3
      have nRC : Rw ≠ C := ne_of_none eR nC
      have k13 := k2.trans k3
      have nR0 : H Rw = none := Same.free k1 nRw
      refine ⟨C, _, rfl, SqL.of eC, ?_⟩
      refine for_it (walk_enumL1 (K := K) (a := C) (xs := us.drop 1)) (fun t σ' H' => ∃ (x6 x7 : Option V) (rs : List V), σ' = [some (.ref L), some (nV M), some (.bl loose), some (nV n), some (nV r), some (.ref Rw), x6, x7] ∧ Same H H' ∧ H' Rw = some (.lst rs) ∧ H' C = some (.lst (us.drop 1)) ∧ LV (StpV H') rs (rowS p (gapF r n) t)) ⟨_, _, _, congrArg (fun z => [some (V.ref L), some (nV M), some (.bl loose), some z, some (nV r), some (.ref Rw), _, _]) e3, k1.trans k13, eR3, eC, LV.snoc LV.nil (s0.kt (same_tup (k1.trans k13)))⟩ ?_ ?_ ?_
      · rintro t σ' H' _ ⟨_, _, _, _, _, _, e, _⟩
        exact SqL.of e
      · rintro t x σ' H4 H5 ht ⟨x6, x7, rs, rfl, k4, eR4, eC4, lr⟩ ⟨T', a1, y, rfl, hT, rfl, h1, h2⟩
        rw [List.length_drop, lus, Nat.add_sub_cancel] at ht
        have h1 := Option.some.inj h1
        subst h1
        have h2 : us[t + 1]? = some y := by
          have h3 : (us.drop 1)[t]? = some y := h2
          rw [List.getElem?_drop, Nat.add_comm] at h3; exact h3
        obtain ⟨st, est, sst⟩ := lv.at h2
        have est := Option.some.inj ((rng (t + 1) (by omega)).symm.trans est)
        subst est
        have k5 := same_upd (o := .tup [.int ((t + 1 : Nat) : Int), y]) (Same.refl H4) hT
        have eT : upd H4 T' (.tup [.int ((t + 1 : Nat) : Int), y]) T' = some (.tup [.int ((t + 1 : Nat) : Int), y]) := upd_same
        generalize upd H4 T' (.tup [.int ((t + 1 : Nat) : Int), y]) = H5 at k5 eT
        have eR5 := k5 _ _ eR4
        have dv : CDivN (((t + 1 : Nat) : Int) * (r : Int)) (n : Int) := ⟨by omega, by omega⟩
        have dv2 : CDivN ((((t + 1 : Nat) : Int) - 1) * (r : Int)) (n : Int) := ⟨by omega, by omega⟩
        refine ⟨T', _, rfl, SqT.of eT, rfl, _, _, rfl, _, _, rfl, rfl, ?_⟩
        refine ⟨.ref Rw, rfl, .inl ⟨rfl, _, .inl (.inl eR5)⟩, ?_⟩
        refine ⟨_, rfl, _, rfl, _, _, rfl, rfl, .inl ⟨by omega, by omega⟩, _, rfl, _, _, rfl, rfl, dv, _, _, rfl, rfl, _, rfl, _, _, rfl, rfl, _, rfl, _, _, rfl, rfl, .inl ⟨by omega, by omega⟩, _, rfl, _, _, rfl, rfl, dv2, _, _, rfl, rfl, ?_⟩
        refine ⟨gapF r n (t + 1), congrArg (fun z => [V.int z]) (gap_int r n t), gap_small ht (by omega), fun H6 xb k6 sb => ?_⟩
        have eR6 := k6 _ _ eR5
        have lrl := lr.1
        rw [row_n] at lrl
        have kt := kt_mut (zs := rs ++ [xb]) eR6
        refine ⟨Rw, rs, _, rfl, rfl, eR6, szN (by omega), ?_⟩
        have k7 := same_mut (o := .lst (rs ++ [xb])) ((k4.trans k5).trans k6) nR0
        have eR7 : upd H6 Rw (.lst (rs ++ [xb])) Rw = some (.lst (rs ++ [xb])) := upd_same
        have eC7 : upd H6 Rw (.lst (rs ++ [xb])) C = some (.lst (us.drop 1)) := by rw [upd_ne (Ne.symm nRC)]; exact k6 _ _ (k5 _ _ eC4)
        generalize upd H6 Rw (.lst (rs ++ [xb])) = H7 at kt k7 eR7 eC7
        have kt2 := kt_mut (zs := rs ++ [xb] ++ [y]) eR7
        refine ⟨.ref Rw, rfl, .inl ⟨rfl, _, .inl (.inl eR7)⟩, _, rfl, Rw, _, _, rfl, rfl, eR7, szN (by rw [List.length_append]; show rs.length + 1 < _; omega), ?_⟩
        refine ⟨_, _, _, rfl, same_mut k7 nR0, upd_same, by rw [upd_ne (Ne.symm nRC)]; exact eC7, ?_⟩
        show LV _ _ (rowS p (gapF r n) t ++ [blankS (gapF r n (t + 1)), p (t + 1)])
        rw [show rowS p (gapF r n) t ++ [blankS (gapF r n (t + 1)), p (t + 1)] = (rowS p (gapF r n) t ++ [blankS (gapF r n (t + 1))]) ++ [p (t + 1)] by rw [List.append_assoc]; rfl]
        exact LV.snoc (LV.snoc (lr.mono fun _ _ z => z.kt fun a xs e => kt2 _ _ (kt _ _ (k6 _ _ (k5 _ _ e)))) (sb.kt fun a xs e => kt2 _ _ (kt _ _ e))) (sst.kt fun a xs e => kt2 _ _ (k7 _ _ e))
      · rintro σ' H4 ⟨x6, x7, rs, rfl, k4, eR4, eC4, lr⟩
        rw [List.length_drop, lus, Nat.add_sub_cancel] at lr
        refine ⟨_, rfl, Rw, rs, _, rfl, eR4, lr, jk, fun H5 xj k5 sj => ?_⟩
        refine ⟨_, rfl, xj, _, 0, M, rfl, sj, eql, hM, by omega, fun H6 y k6 sy => ?_⟩
        exact q H6 y _ ((k4.trans k5).trans k6) sy pl_cv
end
end Vf

set_option Elab.async false
set_option linter.all false
set_option maxRecDepth 100000
set_option maxHeartbeats 4000000
namespace Vf
open PySem PySem.Spec PyProof.Rows L2 TL
/-! ### the lines of a way -/
theorem rw_arcs {as : List Arc} {f g : Nat → Option Nat} (B : Bd (· ∈ as) f g) (up : ∀ a ∈ as, a.1 < a.2.1) : ∀ n v, v ≤ n → ∀ u, u + 1 < (Rw g v).length → ∃ c, ((Rw g v).getD (u + 1) 0, (Rw g v).getD u 0, c) ∈ as
  | 0, v, h, u, hu => by
    have : v = 0 := by omega
    subst this
    rw [Rw_none B.z.2] at hu
    exact absurd hu (by show ¬ (u + 1 < 1); omega)
  | n + 1, v, h, u, hu => by
    cases e : g v with
    | none =>
      rw [Rw_none e] at hu
      exact absurd hu (by show ¬ (u + 1 < 1); omega)
    | some t =>
      have ht := B.dn up v t e
      obtain ⟨c, hc⟩ := bd_tail B e
      rw [Rw_some (B.dn up) e] at hu ⊢
      cases u with
      | zero =>
        obtain ⟨r, er⟩ := Rw_head g t
        rw [er]
        exact ⟨c, hc⟩
      | succ u =>
        obtain ⟨c', hc'⟩ := rw_arcs B up n t (by omega) u (by
          have hu : u + 1 + 1 < (Rw g t).length + 1 := hu
          omega)
        exact ⟨c', hc'⟩
theorem rev_getD {xs : List Nat} {u : Nat} (h : u < xs.length) : xs.reverse.getD u 0 = xs.getD (xs.length - 1 - u) 0 := by
  rw [List.getD_eq_getElem?_getD, List.getD_eq_getElem?_getD, List.getElem?_reverse h]
theorem arc_two {M L : Nat} {S : Sty} {Z : List (List Nat)} {a b c : Nat} (h : (a, b, c) ∈ netQ M L S Z) : a < b ∧ b < (posL S Z).length ∧ TwoP S Z (atQ S Z a) (atQ S Z b) ∧ natW S Z (atQ S Z a).1 (atQ S Z a).2 (atQ S Z b) ≤ M := by
  have hu := netQ_up _ h
  have h1 : a < b := hu.1
  have h2 : b < (posL S Z).length := hu.2
  obtain ⟨s, hs, e⟩ := (net_row (M := M) (L := L) (S := S) (Z := Z) (a := a) (by omega) (a, b, c)).mp ⟨h, rfl⟩
  have eb := (arcAt_is e).2
  have eb : b = a + 1 + s := eb
  subst eb
  have ga : (posL S Z)[a]? = some (atQ S Z a) := by
    have g : (posL S Z)[a]? = some (posL S Z)[a] := List.getElem?_eq_getElem (by omega)
    rw [g]; unfold atQ; rw [getD_of g]
  have gb : (posL S Z)[a + 1 + s]? = some (atQ S Z (a + 1 + s)) := by
    have g : (posL S Z)[a + 1 + s]? = some (posL S Z)[a + 1 + s] := List.getElem?_eq_getElem h2
    rw [g]; unfold atQ; rw [getD_of g]
  refine ⟨h1, h2, pos_two h1 ga gb, ?_⟩
  rw [arcAt_eq ga gb] at e
  by_cases c : natW S Z (atQ S Z a).1 (atQ S Z a).2 (atQ S Z (a + 1 + s)) ≤ M
  · exact c
  · rw [if_neg c] at e; cases e
/-- a way from the first place to the last -/
structure WayF (M : Nat) (S : Sty) (Z : List (List Nat)) (ns : List Nat) : Prop where
  asc : ∀ u, u + 1 < ns.length → ns.getD u 0 < ns.getD (u + 1) 0 ∧ ns.getD (u + 1) 0 < (posL S Z).length
  two : ∀ u, u + 1 < ns.length → TwoP S Z (atQ S Z (ns.getD u 0)) (atQ S Z (ns.getD (u + 1) 0))
  fit : ∀ u, u + 1 < ns.length → natW S Z (atQ S Z (ns.getD u 0)).1 (atQ S Z (ns.getD u 0)).2 (atQ S Z (ns.getD (u + 1) 0)) ≤ M
  pos : 1 ≤ ns.length
  len : ns.length ≤ (posL S Z).length
  last : ns.getD (ns.length - 1) 0 = (posL S Z).length - 1
theorem way_of {M L : Nat} {S : Sty} {Z : List (List Nat)} {f g : Nat → Option Nat} (B : Bd (· ∈ netQ M L S Z) f g) : WayF M S Z (Rw g ((posL S Z).length - 1)).reverse := by
  have up : ∀ a ∈ netQ M L S Z, a.1 < a.2.1 := fun a h => (netQ_up a h).1
  have hl := Rw_len (B.dn up) ((posL S Z).length - 1) _ (Nat.le_refl _)
  have hp := pos_pos (S := S) (Z := Z)
  obtain ⟨r, er⟩ := Rw_head g ((posL S Z).length - 1)
  have arcs : ∀ u, u + 1 < (Rw g ((posL S Z).length - 1)).reverse.length → ∃ c, ((Rw g ((posL S Z).length - 1)).reverse.getD u 0, (Rw g ((posL S Z).length - 1)).reverse.getD (u + 1) 0, c) ∈ netQ M L S Z := fun u hu => by
    rw [List.length_reverse] at hu
    obtain ⟨c, hc⟩ := rw_arcs B up ((posL S Z).length - 1) ((posL S Z).length - 1) (Nat.le_refl _) ((Rw g ((posL S Z).length - 1)).length - 1 - (u + 1)) (by omega)
    refine ⟨c, ?_⟩
    rw [rev_getD (by omega), rev_getD hu]
    rw [show (Rw g ((posL S Z).length - 1)).length - 1 - (u + 1) + 1 = (Rw g ((posL S Z).length - 1)).length - 1 - u by omega] at hc
    exact hc
  refine ⟨fun u hu => ?_, fun u hu => ?_, fun u hu => ?_, ?_, ?_, ?_⟩
  · obtain ⟨c, hc⟩ := arcs u hu
    exact ⟨(arc_two hc).1, (arc_two hc).2.1⟩
  · obtain ⟨c, hc⟩ := arcs u hu
    exact (arc_two hc).2.2.1
  · obtain ⟨c, hc⟩ := arcs u hu
    exact (arc_two hc).2.2.2
  · rw [List.length_reverse, er]; exact Nat.succ_pos _
  · rw [List.length_reverse]; omega
  · have h0 : 0 < (Rw g ((posL S Z).length - 1)).length := by rw [er]; exact Nat.succ_pos _
    rw [List.length_reverse, rev_getD (by omega), show (Rw g ((posL S Z).length - 1)).length - 1 - ((Rw g ((posL S Z).length - 1)).length - 1) = 0 by omega, er]; rfl
theorem atQ_at {S : Sty} {Z : List (List Nat)} {j : Nat} (h : j < (posL S Z).length) : (posL S Z)[j]? = some (atQ S Z j) := by
  have g : (posL S Z)[j]? = some (posL S Z)[j] := List.getElem?_eq_getElem h
  rw [g]; unfold atQ; rw [getD_of g]
/-- a line ends where the way ends just if it is the last one -/
theorem way_last {M : Nat} {S : Sty} {Z : List (List Nat)} {ns : List Nat} (h : WayF M S Z ns) {u : Nat} (hu : u + 1 < ns.length) : (atQ S Z (ns.getD (u + 1) 0) = atQ S Z (ns.getD (ns.length - 1) 0)) ↔ u + 2 = ns.length := by
  constructor
  · intro e
    have h1 := (h.asc u hu).2
    have hp := pos_pos (S := S) (Z := Z)
    rw [h.last] at e
    have ej := pos_inj S Z _ _ _ (atQ_at h1) (by rw [e]; exact atQ_at (by omega))
    by_cases c : u + 2 = ns.length
    · exact c
    · have h2 := h.asc (u + 1) (by omega)
      omega
  · intro e
    rw [show ns.length - 1 = u + 1 by omega]
def lnF (S : Sty) (Y : List (List Nat × Nat)) (M : Nat) (loose : Bool) (x y : Nat × Nat) : List Nat × List Nat := lnC (pcA S Y x y) (pcsN x y - 1) M (rstF loose M (natW S (wdsY Y) x.1 x.2 y))
def strF (S : Sty) (Y : List (List Nat × Nat)) (M : Nat) (rag : Bool) (ns : List Nat) : List (List Nat × List Nat) := (List.range (ns.length - 1)).map fun u => lnF S Y M (rag || decide (u + 2 = ns.length)) (atQ S (wdsY Y) (ns.getD u 0)) (atQ S (wdsY Y) (ns.getD (u + 1) 0))
theorem pair_dp {K : PySem.W.Frag} {H : Hp} {x : V} {r : Nat × Nat} (h : FgV H x r) : Dp K H x (dN [r.1, r.2]) := by
  obtain ⟨b, e, h⟩ := h
  exact dN_dp ⟨b, e, h⟩
theorem pair_eqv (r s : Nat × Nat) : PyData.eqv (dN [r.1, r.2]) (dN [s.1, s.2]) = decide (r = s) := by
  rw [dN_eqv]
  refine decide_eq_decide.mpr ⟨fun h => ?_, fun h => by rw [h]⟩
  have h1 := List.cons.inj h
  have h2 := List.cons.inj h1.2
  exact Prod.ext h1.1 h2.1
theorem getD_map {α β : Type} {f : α → β} {xs : List α} {i : Nat} {d : α} (h : i < xs.length) : (xs.map f)[i]? = some (f (xs.getD i d)) := by
  have e : xs[i]? = some xs[i] := List.getElem?_eq_getElem h
  rw [List.getElem?_map, e, List.getD_eq_getElem?_getD, e]; rfl
theorem at_neg1 {xs : List V} {n : Nat} {v : V} (hl : xs.length = n + 1) (h : xs[n]? = some v) : atI xs (-1) = some v := at_lastT hl h
end Vf

set_option Elab.async false
set_option linter.all false
set_option maxRecDepth 100000
set_option maxHeartbeats 4000000
namespace Vf
open PySem PySem.Spec PyProof.Rows L2 TL LamX
theorem exT' {H H' : Hp} (e : ExtN H H') : ∀ a xs, H a = some (.tup xs) → H' a = some (.tup xs) := fun a xs h => e _ _ h (fun _ z => by cases z)
theorem exL' {H H' : Hp} (e : ExtN H H') {a : Addr} {xs : List V} (h : H a = some (.lst xs)) : H' a = some (.lst xs) := e _ _ h (fun _ z => by cases z)
theorem tSl_1 {K : PySem.W.Frag} {te : TE} {σ : L2.St} {H : Hp} {Q : VK} {a : Addr} {xs : List V} (ht : ∀ R : VK, R (.ref a) H → te σ H R) (e : H a = some (.tup xs)) (q : ∀ b H', Same H H' → H' b = some (.tup (xs.drop 1)) → Q (.ref b) H') : tSl (rSlA K) te (tPart (tC (.int 1))) tNoPart σ H Q := by
  refine ht _ ⟨1, rfl, ?_⟩
  have h : rSlA K (.ref a) (some 1) none H Q := slA_any e fun C H5 k5 eC => by
    rw [cut_from1] at eC
    exact q C H5 k5 eC
  exact h
theorem orV_any {ta tb : TE} {σ : L2.St} {H : Hp} {Q : VK} {a : Bool} {p : Prop} [Decidable p] (ha : ∀ R : VK, R (.bl a) H → ta σ H R) (hb : ∀ R : VK, R (.bl (decide p)) H → tb σ H R) (q : Q (.bl (a || decide p)) H) : tOrV ta tb σ H Q := by
  refine ha _ ⟨a, rfl, ?_⟩
  cases a
  · exact hb _ q
  · exact q
section
variable {P : Program} {w : World} {K : PySem.W.Frag} {mg : Str → Option Value} {base : Heap}
/-- lines set, beside the way -/
def SetL (S : Sty) (Y : List (List Nat × Nat)) (M : Nat) (rag : Bool) (ns : List Nat) (H : Hp) (x : V) : Prop := ∃ p t q us, x = .ref p ∧ H p = some (.tup [.ref t, .ref q]) ∧ H t = some (.tup us) ∧ LV (LnV H) us (strF S Y M rag ns) ∧ WayV S (wdsY Y) H q ns
def spSetL (Pt tw : Addr) : Sp := fun vs H Q E => ∃ (v : V) (wa : Addr) (ws : List V) (S : Sty) (Y : List (List Nat × Nat)) (M L : Nat) (rag : Bool) (f g : Nat → Option Nat), vs = [v, nV M, .ref wa, .bl rag] ∧ StyL H v S L ∧ H wa = some (.tup ws) ∧ LV (WkV H) ws Y ∧ WdsOk S (wdsY Y) ∧ (∀ z ∈ wdsY Y, WdOk z) ∧ (posL S (wdsY Y)).length ≤ 91 ∧ M ≤ 20000 ∧ Tabs [(Pt, lamQ)] H ∧ Bd (· ∈ netQ M L S (wdsY Y)) f g ∧
  (∀ y, f ((posL S (wdsY Y)).length - 1) = some y → ∀ H' x, ExtN H H' → Tabs [(Pt, lamQ)] H' → SetL S Y M rag (Rw g ((posL S (wdsY Y)).length - 1)).reverse H' x → Q x H') ∧
  (f ((posL S (wdsY Y)).length - 1) = none → ∀ H' d, ExtN H H' → Tabs [(Pt, lamQ)] H' → H' d = some (.xd [("part", .str "word")]) → E (.ref tw) (some d) H')
theorem ok_set_lines (T : Txt K mg) {c Pt : Addr} (hcode : T.d_least_lines.code = .ref c) (TB : TabB base mg c Pt) : FnOk P w K mg base (L2N.CX P w) 8 T.a_set_lines T.d_set_lines ["style", "measure", "words", "ragged"] (spSetL Pt T.c_TooWide) := by
  have G_least_lines : FnOk P w K mg base (L2N.CX P w) 7 T.a_least_lines T.d_least_lines ["measure", "ladder", "shapes"] (spLeast Pt T.c_TooWide) := ok_least T hcode TB
  have G_shape_of : FnOk P w K mg base CX0 5 T.a_shape_of T.d_shape_of ["style", "word"] spShapeOf := ok_shape_of T
  have G_pieces_of_line : FnOk P w K mg base CX0 7 T.a_pieces_of_line T.d_pieces_of_line ["style", "words", "begin", "end"] spPcs := ok_pcs T
  have G_line_strip : FnOk P w K mg base CX0 4 T.a_line_strip T.d_line_strip ["pieces", "measure", "loose"] spStrip := ok_strip T
  refine okN T.D_set_lines.F sc_set_lines (fun vs H Q E h => ?_) (fun cdv A outer s H vs Q E hr h => ?_)
  · obtain ⟨_, _, _, _, _, _, _, _, _, _, rfl, _⟩ := h
    rfl
  · obtain ⟨v, wa, ws, S, Y, M, L, rag, f, g, rfl, sl, ew, lw, ok, wd, l91, hM, hT, bd, qS, qE⟩ := h
    have l40 := ok.ln
    have hh := wdsY_len Y
    rw [wdsY_len] at l40
    have lws := lw.1
    obtain ⟨va, vp, wv, cv, bv, ps, rfl, ea, _, _, _, ep⟩ := id sl
    refine ⟨_, (pss_cons (ps_set (i := 4) sc_set_lines.nd rfl (.inl rfl) (pe_callS G_least_lines (hr.mono (by decide)) rfl T.D_least_lines.G T.D_least_lines.F.kp T.D_least_lines.B (fun σ => L2N.passAt (L2N.takes_of rfl rfl rfl rfl) σ) (pa_cons (pv 1) (pa_cons (pe_ix ix_tup (pe_ix ix_tup (pv 0) pe_int (fun _ _ => rfl)) pe_int (fun _ _ => rfl)) (pa_cons (pe_callTy call_tuple_of (by rfl) T.n_tuple (by decide +kernel) (pa_cons (pe_lc (own := [("word", 10), ("_", 11)]) (g := (gTup K 2 (gCons (gName 10) (gCons (gName 11) gNil)))) (tt := tYes) rfl sc_set_lines.nd (pi_tup (pv 2)) (blkOk_by (own := [("word", 10), ("_", 11)]) (N := ["style", "measure", "words", "ragged", "lines", "strips", "begin", "end", "pieces", "loose", "word", "_"]) (sc := (defScope s_set_lines)) (by decide +kernel)) (fun _ _ _ _ _ => (pg_tup (by rfl) (pgs_cons (pg_name (i := 10) sc_set_lines.nd rfl (.inl rfl)) (pgs_cons (pg_name (i := 11) sc_set_lines.nd rfl (.inl rfl)) pgs_nil)))) (fun _ _ _ _ _ => pts_nil) (fun _ _ _ _ _ => (pe_call G_shape_of (hr.mono (by decide)) (by rfl) T.D_shape_of.G T.D_shape_of.F.kp T.D_shape_of.B .nil pass0 (pa_cons (pv 0) (pa_cons (pv 10) pa_nil))))) pa_nil)) pa_nil)))))
      (pss_cons (ps_set (i := 5) sc_set_lines.nd rfl (.inl rfl) (pe_lst pa_nil))
      (pss_cons (ps_for (passes_of rfl) rfl (pi_zipM (by rfl) T.n_zip (pa_cons (pv 4) (pa_cons (pe_slice sl_tupA (pv 4) (po_some pe_int) po_none) pa_nil))) (pg_tup (by rfl) (pgs_cons (pg_name (i := 6) sc_set_lines.nd rfl (.inl rfl)) (pgs_cons (pg_name (i := 7) sc_set_lines.nd rfl (.inl rfl)) pgs_nil))) (pss_cons (ps_set (i := 8) sc_set_lines.nd rfl (.inl rfl) (pe_call G_pieces_of_line (hr.mono (by decide)) (by rfl) T.D_pieces_of_line.G T.D_pieces_of_line.F.kp T.D_pieces_of_line.B .nil pass0 (pa_cons (pv 0) (pa_cons (pv 2) (pa_cons (pv 6) (pa_cons (pv 7) pa_nil))))))
      (pss_cons (ps_set (i := 9) sc_set_lines.nd rfl (.inl rfl) (pe_or (pv 3) (pe_one (pe_cmpR (op_eqD (Room.units hr)) (pv 7) (pe_ix ix_tup (pv 4) (pe_un un_neg pe_int) (fun _ _ => rfl)) (nomark _)))))
      (pss_one (ps_expr (pe_bm PySem.F.plainAttrs_list PySem.F.slot_list_append PySem.F.type_list_append mt_append (pv 5) (pa_cons (pe_call G_line_strip (hr.mono (by decide)) (by rfl) T.D_line_strip.G T.D_line_strip.F.kp T.D_line_strip.B .nil pass0 (pa_cons (pv 8) (pa_cons (pv 1) (pa_cons (pv 9) pa_nil)))) pa_nil)))))))
      (pss_one (ps_ret (pe_tup (pa_cons (pe_callTy call_tuple_of (by rfl) T.n_tuple (by decide +kernel) (pa_cons (pv 5) pa_nil)) (pa_cons (pv 4) pa_nil)))))))), ?_⟩
    refine ⟨_, rfl, _, rfl, va, _, 6, _, rfl, rfl, SqT.of ea, rfl, vp, _, 0, _, rfl, rfl, SqT.of ep, atI_nat (j := 0) rfl, _, rfl, wa, rfl, ⟨_, SqT.of ew⟩, fun D nD => ?_⟩
    refine lc_it (walk_tup (K := K) (a := wa) (xs := ws)) (fun t H' => ∃ ts, H' D = some (.lst ts) ∧ LV (ShV S H') ts ((wdsY Y).take t) ∧ Same H H') ⟨[], upd_same, LV.nil, same_upd (Same.refl H) nD⟩ ?_ ?_ ?_
    · rintro t H' _ ⟨_, _, _, k⟩
      exact SqT.of (k _ _ ew)
    · rintro t x Ha H3 ht ⟨ts, e3, lt, k3⟩ ⟨rfl, hx⟩
      have ht : t < Y.length := by rw [← lws]; exact ht
      have htz : t < (wdsY Y).length := by rw [wdsY_len]; exact ht
      obtain ⟨yy, ey, b, rfl, eb⟩ := lw.at hx
      have ey := Option.some.inj ((y_at ht).symm.trans ey)
      subst ey
      refine ⟨b, _, rfl, SqT.of (k3 _ _ eb), rfl, _, _, rfl, _, _, rfl, rfl, by kernel_rfl, ?_⟩
      refine ⟨_, by kernel_rfl, _, by kernel_rfl, .ref va, S, wz (wdsY Y) t, rfl, sl.sty.mono (same_tup k3), ok.st, wd _ (wz_mem htz), fun u H4 k4 sh => ?_⟩
      have e4 := k4 _ _ e3
      have kt := kt_mut (zs := ts ++ [u]) e4
      have ltl := lt.1
      rw [List.length_take] at ltl
      refine ⟨ts, e4, szN (by omega), ts ++ [u], upd_same, ?_, same_mut (k3.trans k4) nD⟩
      rw [show (wdsY Y).take (t + 1) = (wdsY Y).take t ++ [wz (wdsY Y) t] by rw [List.take_succ, wz_at htz]; rfl]
      exact LV.snoc (lt.mono fun _ _ z => ShV.kt z fun a xs e => kt _ _ (k4 _ _ e)) (ShV.kt sh kt)
    rintro H1 ⟨us, es, lv, k1⟩
    rw [show ws.length = (wdsY Y).length by omega, List.take_length] at lv
    refine ⟨D, us, rfl, .inl ⟨SqL.of es, fun sa nsa => ?_⟩⟩
    have k2 := same_upd (o := .tup us) (Same.refl H1) nsa
    have e2 : upd H1 sa (.tup us) sa = some (.tup us) := upd_same
    generalize upd H1 sa (.tup us) = H2 at k2 e2
    have k12 := k1.trans k2
    refine ⟨sa, us, S, wdsY Y, M, L, f, g, rfl, e2, lv.mono fun _ _ z => ShV.kt z (same_tup k2), ok, l91, by omega, hT.ext k12, bd, fun y hf H3 pl x3 T3 wv3 => ?_, fun hf H3 d x3 T3 hd => ?_⟩
    · have wf := way_of bd
      have qS := qS y hf
      generalize (Rw g ((posL S (wdsY Y)).length - 1)).reverse = ns at wf qS wv3
      have x13 := (ExtN.of k12).trans x3
      have t13 := exT' x13
      have l1 := wf.pos
      have l2 := wf.len
      refine ⟨by show 0 ≤ sizeLine; decide, fun R nR => ?_⟩
      have k4 := same_upd (o := .lst []) (Same.refl H3) nR
      have eR : upd H3 R (.lst []) R = some (.lst []) := upd_same
      generalize upd H3 R (.lst []) = H4 at k4 eR
      obtain ⟨pv, epl, lp⟩ := id wv3
      have lpl := lp.1
      rw [List.length_map] at lpl
      refine ⟨_, rfl, tSl_1 (fun R' h => ⟨_, rfl, h⟩) (k4 _ _ epl) fun C H5 k5 eC => ?_⟩
      have eR5 := k5 _ _ eR
      have x45 := k4.trans k5
      refine ⟨.T pl, .T C, pv, pv.drop 1, rfl, SqT.of (x45 _ _ epl), SqT.of eC, ?_⟩
      have nst : ∀ u, u + 1 < ns.length → (strF S Y M rag ns)[u]? = some (lnF S Y M (rag || decide (u + 2 = ns.length)) (atQ S (wdsY Y) (ns.getD u 0)) (atQ S (wdsY Y) (ns.getD (u + 1) 0))) := fun u hu => by
        unfold strF
        rw [List.getElem?_map, List.getElem?_range (by omega)]; rfl
      refine for_it (walk_zipM (K := K) (p := .T pl) (q := .T C) (xs := pv) (ys := pv.drop 1) (n := ns.length - 1) (by rw [List.length_drop, lpl]; omega)) (fun u σ' H' => ∃ (x6 x7 x8 x9 x10 x11 : Option V) (rs : List V), σ' = [some (.ref va), some (nV M), some (.ref wa), some (.bl rag), some (.ref pl), some (.ref R), x6, x7, x8, x9, x10, x11] ∧ Same H3 H' ∧ H' R = some (.lst rs) ∧ H' C = some (.tup (pv.drop 1)) ∧ LV (LnV H') rs ((strF S Y M rag ns).take u)) ⟨_, _, _, _, _, _, [], rfl, x45, eR5, eC, LV.nil⟩ ?_ ?_ ?_
      · rintro u σ' H' _ ⟨_, _, _, _, _, _, _, _, k, _, e, _⟩
        exact ⟨SqT.of (k _ _ epl), SqT.of e⟩
      · rintro u x σ' H6 H7 hu ⟨x6, x7, x8, x9, x10, x11, rs, rfl, k6, eR6, eC6, lr⟩ ⟨T', a1, a2, rfl, hT', rfl, h1, h2⟩
        have hu1 : u + 1 < ns.length := by omega
        have h2 : pv[u + 1]? = some a2 := by
          have h3 : (pv.drop 1)[u]? = some a2 := h2
          rw [List.getElem?_drop, Nat.add_comm] at h3; exact h3
        have h1 : pv[u]? = some a1 := h1
        have g1 := getD_map (f := atQ S (wdsY Y)) (xs := ns) (d := 0) (show u < ns.length by omega)
        have g2 := getD_map (f := atQ S (wdsY Y)) (xs := ns) (d := 0) hu1
        have g3 := getD_map (f := atQ S (wdsY Y)) (xs := ns) (d := 0) (show ns.length - 1 < ns.length by omega)
        obtain ⟨z1, e1, b1, rfl, eb1⟩ := lp.2 _ _ g1
        obtain ⟨z2, e2', b2, rfl, eb2⟩ := lp.2 _ _ g2
        obtain ⟨z3, e3', f3⟩ := lp.2 _ _ g3
        have h1 := Option.some.inj (h1.symm.trans e1)
        have h2 := Option.some.inj (h2.symm.trans e2')
        subst h1 h2
        have two := wf.two u hu1
        have fit := wf.fit u hu1
        have lst := way_last wf hu1
        have nst := nst u hu1
        generalize atQ S (wdsY Y) (ns.getD u 0) = px at *
        generalize atQ S (wdsY Y) (ns.getD (u + 1) 0) = py at *
        generalize atQ S (wdsY Y) (ns.getD (ns.length - 1) 0) = pz at *
        have k7 := same_upd (o := .tup [V.ref b1, V.ref b2]) (Same.refl H6) hT'
        have eT : upd H6 T' (.tup [V.ref b1, V.ref b2]) T' = some (.tup [V.ref b1, V.ref b2]) := upd_same
        generalize upd H6 T' (.tup [V.ref b1, V.ref b2]) = H7 at k7 eT
        have k37 := k6.trans k7
        have t7 : ∀ a xs, H a = some (.tup xs) → H7 a = some (.tup xs) := fun a xs e => k37 _ _ (t13 _ _ e)
        have tp := two_pos two
        rw [wdsY_len] at tp
        refine ⟨T', _, rfl, SqT.of eT, rfl, _, _, rfl, _, _, rfl, rfl, ?_⟩
        refine ⟨_, rfl, _, rfl, _, rfl, _, rfl, .ref va, wa, b1, b2, ws, S, Y, px.1, px.2, py.1, py.2, rfl, sl.sty.mono t7, ok.st, t7 _ _ ew, lw.mono fun _ _ z => z.kt t7, l40, wd, ok.ne, k37 _ _ eb1, k37 _ _ eb2, two, fun H8 Lp us8 k8 eL8 l8 => ?_⟩
        dsimp only [gName, tSeq, tAsg]
        refine orV_any (a := rag) (p := py = pz) (fun R' h => ⟨_, rfl, h⟩) (fun R' h => ?_) ?_
        · have d2 : FgV H8 (.ref b2) py := ⟨b2, rfl, k8 _ _ (k37 _ _ eb2)⟩
          have d3 : FgV H8 z3 pz := (f3.same k37).same k8
          refine ⟨_, rfl, _, rfl, 1, rfl, pl, pv, -1, z3, rfl, rfl, SqT.of (k8 _ _ (k37 _ _ epl)), at_neg1 (n := ns.length - 1) (by omega) e3', dN [py.1, py.2], dN [pz.1, pz.2], pair_dp d2, pair_dp d3, dN_shaped _, dN_shaped _, ?_⟩
          rw [pair_eqv]; exact h
        have npc : pcsN (px.1, px.2) (py.1, py.2) = (pcsN px py - 1) + 1 := by show pcsN px py = _; omega
        rw [npc] at l8
        have sn := sw_nat ok.st two
        rw [show pcsN px py = (pcsN px py - 1) + 1 by omega, Nat.add_sub_cancel] at sn
        have eR8 := k8 _ _ (k7 _ _ eR6)
        refine ⟨.ref R, rfl, .inl ⟨rfl, _, .inl (.inl eR8)⟩, ?_⟩
        refine ⟨_, rfl, _, rfl, _, rfl, Lp, us8, pcA S Y px py, pcsN px py - 1, M, rag || decide (py = pz), rfl, eL8, l8, fun t => piece_eq _ _ _ _ _, by omega, hM, by omega, fun H9 y9 s9 k9 sy9 es9 => ?_⟩
        rw [sn] at es9
        have eR9 := k9 _ _ eR8
        have kt := kt_mut (zs := rs ++ [y9]) eR9
        have lrl := lr.1
        rw [List.length_take] at lrl
        refine ⟨R, rs, y9, rfl, rfl, eR9, szN (by omega), _, _, _, _, _, _, rs ++ [y9], rfl, same_mut (k37.trans (k8.trans k9)) nR, upd_same, ?_, ?_⟩
        · exact kt _ _ (k9 _ _ (k8 _ _ (k7 _ _ eC6)))
        · rw [show (strF S Y M rag ns).take (u + 1) = (strF S Y M rag ns).take u ++ [lnF S Y M (rag || decide (u + 2 = ns.length)) px py] by rw [List.take_succ, nst]; rfl]
          refine LV.snoc (lr.mono fun _ _ z => z.kt fun a xs e => kt _ _ (k9 _ _ (k8 _ _ (k7 _ _ e)))) ⟨s9, sy9.kt kt, ?_⟩
          rw [es9, show decide (py = pz) = decide (u + 2 = ns.length) from decide_eq_decide.mpr lst]; rfl
      · rintro σ' H6 ⟨x6, x7, x8, x9, x10, x11, rs, rfl, k6, eR6, eC6, lr⟩
        have lsn : (strF S Y M rag ns).length = ns.length - 1 := by unfold strF; rw [List.length_map, List.length_range]
        rw [List.take_of_length_le (by omega)] at lr
        refine ⟨_, rfl, R, rs, rfl, .inl ⟨SqL.of eR6, fun t nt => ?_⟩⟩
        have k7 := same_upd (o := .tup rs) (Same.refl H6) nt
        have et : upd H6 t (.tup rs) t = some (.tup rs) := upd_same
        generalize upd H6 t (.tup rs) = H7 at k7 et
        refine ⟨_, rfl, by show 2 ≤ sizeLine; decide, fun b nb => ?_⟩
        have k8 := same_upd (o := .tup [V.ref t, V.ref pl]) (Same.refl H7) nb
        have k38 := (k6.trans k7).trans k8
        exact qS _ (.ref b) (x13.trans (ExtN.of k38)) (T3.ext k38) ⟨b, t, pl, rs, rfl, upd_same, k8 _ _ et, lr.mono fun _ _ z => z.kt fun a xs e => k8 _ _ (k7 _ _ e), wv3.kt (same_tup k38)⟩
    · exact qE hf H3 d ((ExtN.of k12).trans x3) T3 hd
end
end Vf

set_option Elab.async false
set_option linter.all false
set_option maxRecDepth 100000
set_option maxHeartbeats 4000000
namespace Vf
open PySem PySem.Spec PyProof.Rows L2 TL LamX
section
variable {P : Program} {w : World} {K : PySem.W.Frag} {mg : Str → Option Value} {base : Heap}
def CutV (H : Hp) (x : V) (cs : List (List Nat × List Nat)) : Prop := ∃ p ws, x = .ref p ∧ H p = some (.tup ws) ∧ LV (CvV H) ws cs
theorem CutV.kt {H H' : Hp} {x : V} {cs : List (List Nat × List Nat)} (h : CutV H x cs) (k : ∀ a xs, H a = some (.tup xs) → H' a = some (.tup xs)) : CutV H' x cs := by
  obtain ⟨p, ws, e, h1, h2⟩ := h
  exact ⟨p, ws, e, k _ _ h1, h2.mono fun _ _ z => z.kt k⟩
def spSetW (Pt tw : Addr) : Sp := fun vs H Q E => ∃ (v : V) (wa : Addr) (ws : List V) (S : Sty) (Y : List (List Nat × Nat)) (M L : Nat) (rag : Bool) (f g : Nat → Option Nat), vs = [v, nV M, .ref wa, .bl rag] ∧ StyL H v S L ∧ H wa = some (.tup ws) ∧ LV (WkV H) ws Y ∧ WdsOk S (wdsY Y) ∧ (∀ z ∈ wdsY Y, WdOk z) ∧ (posL S (wdsY Y)).length ≤ 91 ∧ M ≤ 20000 ∧ Tabs [(Pt, lamQ)] H ∧ Bd (· ∈ netQ M L S (wdsY Y)) f g ∧
  (∀ y, f ((posL S (wdsY Y)).length - 1) = some y → ∀ H' x, ExtN H H' → Tabs [(Pt, lamQ)] H' → CutV H' x (strF S Y M rag (Rw g ((posL S (wdsY Y)).length - 1)).reverse) → Q x H') ∧
  (f ((posL S (wdsY Y)).length - 1) = none → ∀ H' d, ExtN H H' → Tabs [(Pt, lamQ)] H' → H' d = some (.xd [("part", .str "word")]) → E (.ref tw) (some d) H')
theorem ok_set_words (T : Txt K mg) {c Pt : Addr} (hcode : T.d_least_lines.code = .ref c) (TB : TabB base mg c Pt) : FnOk P w K mg base (L2N.CX P w) 9 T.a_set_words T.d_set_words ["style", "measure", "words", "ragged"] (spSetW Pt T.c_TooWide) := by
  have G_set_lines : FnOk P w K mg base (L2N.CX P w) 8 T.a_set_lines T.d_set_lines ["style", "measure", "words", "ragged"] (spSetL Pt T.c_TooWide) := ok_set_lines T hcode TB
  have G_bare : FnOk P w K mg base CX0 1 T.a_bare T.d_bare ["strips"] spBare := ok_bare T
  refine T.D_set_words.F.ok sc_set_words (fun vs H Q E h => ?_) (fun cdv A outer s H vs Q E hr h => ?_)
  · obtain ⟨_, _, _, _, _, _, _, _, _, _, rfl, _⟩ := h
    rfl
  · obtain ⟨v, wa, ws, S, Y, M, L, rag, f, g, rfl, sl, ew, lw, ok, wd, l91, hM, hT, bd, qS, qE⟩ := h
    refine ⟨_, (pss_one (ps_ret (pe_call G_bare (hr.mono (by decide)) (by rfl) T.D_bare.G T.D_bare.F.kp T.D_bare.B .nil pass0 (pa_cons (pe_ix ix_tup (pe_callS G_set_lines (hr.mono (by decide)) rfl T.D_set_lines.G T.D_set_lines.F.kp T.D_set_lines.B (fun σ => L2N.passAt (L2N.takes_of rfl rfl rfl rfl) σ) (pa_cons (pv 0) (pa_cons (pv 1) (pa_cons (pv 2) (pa_cons (pv 3) pa_nil))))) pe_int (fun _ _ => rfl)) pa_nil)))), ?_⟩
    refine ⟨_, rfl, _, rfl, _, rfl, _, rfl, v, wa, ws, S, Y, M, L, rag, f, g, rfl, sl, ew, lw, ok, wd, l91, hM, hT, bd, fun y hf H1 x x1 T1 hx => ?_, qE⟩
    have wf := way_of bd
    have l2 := wf.len
    obtain ⟨p, t, q, us, rfl, ep, et, lu, wv⟩ := hx
    refine ⟨p, _, 0, _, rfl, rfl, SqT.of ep, rfl, t, us, _, rfl, et, lu, ?_, fun H2 b cs k2 eb lc => ?_⟩
    · unfold strF
      rw [List.length_map, List.length_range]; omega
    · exact qS y hf H2 (.ref b) (x1.trans (ExtN.of k2)) (T1.ext k2) ⟨b, cs, rfl, eb, lc⟩
end
end Vf

set_option Elab.async false
set_option linter.all false
set_option maxRecDepth 100000
set_option maxHeartbeats 4000000
namespace Vf
open PySem PySem.Spec PyProof.Rows L2 TL
open PySem.Builtin.Str (occurrences subAt strSliceIndices)
/-! ### the first place of a sign -/
theorem occ_done (s sub : Str) (hi limit : Nat) : ∀ (l : List Nat) (st : Array Nat × Nat), limit ≤ st.fst.size → (forIn (m := Id) l st (StrLaws.occBody s sub hi limit)).run.fst = st.fst
  | [], st, h => rfl
  | a :: l, st, h => by
    rw [List.forIn_cons]
    unfold StrLaws.occBody
    rw [if_neg (fun c => Nat.lt_irrefl _ (Nat.lt_of_lt_of_le c.1.1.1 h))]
    exact occ_done s sub hi limit l st h
theorem before_idx {l : List Nat} {c a : Nat} (h : a < l.idxOf c) : l[a]? ≠ some c := by
  induction l generalizing a with
  | nil => simp
  | cons x r ih =>
    rw [List.idxOf_cons] at h
    cases hx : x == c with
    | true => rw [hx] at h; exact absurd h (Nat.not_lt_zero _)
    | false =>
      rw [hx] at h
      cases a with
      | zero => intro e; have e2 : x = c := Option.some.inj e; rw [e2, beq_self_eq_true] at hx; cases hx
      | succ a => exact ih (Nat.lt_of_succ_lt_succ h)
theorem at_idx {l : List Nat} {c : Nat} (h : c ∈ l) : l[l.idxOf c]? = some c := by
  induction l with
  | nil => cases h
  | cons x r ih =>
    rw [List.idxOf_cons]
    cases hx : x == c with
    | true =>
      have e2 : x = c := eq_of_beq hx
      rw [e2]; rfl
    | false =>
      have ne : x ≠ c := fun e => by rw [e, beq_self_eq_true] at hx; cases hx
      rcases List.mem_cons.mp h with e | e
      · exact absurd e.symm ne
      · exact ih e
theorem occ_run {x : Str} {c : Nat} (hc : c ∈ x.cps.toList) : ∀ (n a : Nat), a ≤ x.cps.toList.idxOf c → x.cps.toList.idxOf c < a + n →
    (forIn (m := Id) (List.range' a n) ((#[] : Array Nat), 0) (StrLaws.occBody x ⟨#[c]⟩ x.length 1)).run.fst = #[x.cps.toList.idxOf c]
  | 0, a, h1, h2 => absurd h2 (by omega)
  | n + 1, a, h1, h2 => by
    rw [List.range'_succ, List.forIn_cons]
    unfold StrLaws.occBody
    by_cases e : a = x.cps.toList.idxOf c
    · have g := (StrLaws.subAt_one x c a).mpr (by rw [e]; exact at_idx hc)
      rw [if_pos ⟨⟨⟨Nat.one_pos, Nat.zero_le _⟩, g.1⟩, g.2⟩]
      have := occ_done x ⟨#[c]⟩ x.length 1 (List.range' (a + 1) n) ((#[] : Array Nat).push a, a + (⟨#[c]⟩ : Str).length) (Nat.le_refl _)
      refine Eq.trans this ?_
      rw [← e]; rfl
    · have lt : a < x.cps.toList.idxOf c := by omega
      rw [if_neg (fun z => before_idx lt ((StrLaws.subAt_one x c a).mp ⟨z.1.2, z.2⟩))]
      exact occ_run hc n (a + 1) lt (by omega)
theorem occ_first {x : Str} {c : Nat} (hc : c ∈ x.cps.toList) : occurrences x ⟨#[c]⟩ 0 x.length 1 = [x.cps.toList.idxOf c] := by
  rw [StrLaws.occ_eq, occ_run hc _ 0 (Nat.zero_le _) ?_]
  have h := (List.getElem?_eq_some_iff.mp (at_idx hc)).1
  have e : x.length = x.cps.toList.length := len_cps x
  omega
theorem find_first {x : Str} {c : Nat} (hc : c ∈ x.cps.toList) : Txt.find x ⟨#[c]⟩ = ((x.cps.toList.idxOf c : Nat) : Int) := by
  unfold Txt.find
  rw [occ_first hc]
/-! ### z[lo::n] -/
def idxS (z : Str) (lo : Option Int) (n : Int) : List Nat := strSliceIndices lo none n z.length
def pickS (z : Str) (lo : Option Int) (n : Int) : Str :=
  if (n == 1 && (idxS z lo n).length == z.length) = true then z else ⟨((idxS z lo n).filterMap (z.cps[·]?)).toArray⟩
theorem fm_some {α β : Type} {f : α → Option β} {g : α → β} : ∀ (l : List α), (∀ k ∈ l, f k = some (g k)) → l.filterMap f = l.map g
  | [], _ => rfl
  | a :: l, h => by
    rw [List.filterMap_cons_some (h a List.mem_cons_self), fm_some l fun k hk => h k (List.mem_cons_of_mem _ hk)]; rfl
/-- the places lo, lo + n, .. below z's length -/
def upS (len lo n : Nat) : List Nat := (List.range ((len - lo + n - 1) / n)).map fun k => lo + n * k
theorem idx_up {z : Str} {lo n : Nat} (hn : 0 < n) (hl : lo ≤ z.length) : idxS z (some (lo : Int)) (n : Int) = upS z.length lo n := by
  unfold idxS strSliceIndices PySem.sliceRange upS
  have h1 : ¬ ((lo : Int) < 0) := by omega
  have h2 : (n : Int) > 0 := by omega
  have e1 : max (0 : Int) (min (lo : Int) (z.length : Int)) = (lo : Int) := by omega
  simp only [if_neg h1, if_pos h2, e1]
  by_cases c : (lo : Int) < (z.length : Int)
  · rw [if_pos c]
    have e2 : (((z.length : Int) - (lo : Int) + (n : Int) - 1) / (n : Int)).toNat = (z.length - lo + n - 1) / n := by
      rw [show ((z.length : Int) - (lo : Int) + (n : Int) - 1) = ((z.length - lo + n - 1 : Nat) : Int) by omega, ← Int.natCast_ediv, Int.toNat_natCast]
    rw [e2]
    refine List.map_congr_left fun k _ => ?_
    rw [show ((lo : Int) + (n : Int) * (k : Int)) = ((lo + n * k : Nat) : Int) by rw [Int.natCast_add, Int.natCast_mul], Int.toNat_natCast]
  · rw [if_neg c]
    have e3 : (z.length - lo + n - 1) / n = 0 := Nat.div_eq_of_lt (by omega)
    rw [e3]; rfl
theorem idx_none {z : Str} {n : Nat} (hn : 0 < n) : idxS z none (n : Int) = upS z.length 0 n := by
  rw [← idx_up (lo := 0) hn (Nat.zero_le _)]
  unfold idxS strSliceIndices
  have h2 : (n : Int) > 0 := by omega
  have h1 : ¬ (((0 : Nat) : Int) < 0) := by omega
  have e1 : max (0 : Int) (min ((0 : Nat) : Int) (z.length : Int)) = 0 := by omega
  simp only [if_pos h2, if_neg h1, e1]
theorem up_lt {len lo n k : Nat} (hn : 0 < n) (hk : k < (len - lo + n - 1) / n) : lo + n * k < len := by
  have h1 : k + 1 ≤ (len - lo + n - 1) / n := hk
  have h2 : (k + 1) * n ≤ len - lo + n - 1 := (Nat.le_div_iff_mul_le hn).mp h1
  rw [Nat.add_mul, Nat.one_mul, Nat.mul_comm k n] at h2
  omega
/-- the signs at lo, lo + n, .. -/
theorem pick_at {z : Str} {o : Option Int} {lo n : Nat} (hn : 0 < n) (e : idxS z o (n : Int) = upS z.length lo n) (k c : Nat) (h : (pickS z o (n : Int)).cps.toList[k]? = some c) : z.cps.toList[lo + n * k]? = some c := by
  unfold pickS at h
  by_cases cc : ((n : Int) == 1 && (idxS z o (n : Int)).length == z.length) = true
  · rw [if_pos cc] at h
    rw [Bool.and_eq_true] at cc
    have n1 : (n : Int) = 1 := eq_of_beq cc.1
    have n1 : n = 1 := by omega
    subst n1
    have l1 : (idxS z o ((1 : Nat) : Int)).length = z.length := eq_of_beq cc.2
    rw [e] at l1
    unfold upS at l1
    rw [List.length_map, List.length_range, Nat.div_one] at l1
    have hk := (List.getElem?_eq_some_iff.mp h).1
    have hz := len_cps z
    have : lo = 0 := by omega
    subst this
    rw [Nat.zero_add, Nat.one_mul]; exact h
  · rw [if_neg cc, e] at h
    have e2 : (upS z.length lo n).filterMap (z.cps[·]?) = (List.range ((z.length - lo + n - 1) / n)).map fun k => z.cps.toList.getD (lo + n * k) 0 := by
      unfold upS
      rw [List.filterMap_map]
      refine fm_some _ fun k hk => ?_
      have hlt := up_lt hn (List.mem_range.mp hk)
      rw [len_cps] at hlt
      show z.cps[lo + n * k]? = some (z.cps.toList.getD (lo + n * k) 0)
      rw [List.getD_eq_getElem?_getD, List.getElem?_eq_getElem hlt, ← Array.getElem?_toList, List.getElem?_eq_getElem hlt]; rfl
    rw [e2] at h
    have h : ((List.range ((z.length - lo + n - 1) / n)).map fun k => z.cps.toList.getD (lo + n * k) 0)[k]? = some c := h
    rw [List.getElem?_map] at h
    by_cases hk : k < (z.length - lo + n - 1) / n
    · have hlt := up_lt hn hk
      rw [len_cps] at hlt
      rw [List.getElem?_eq_getElem (by rw [List.length_range]; exact hk), List.getElem_range] at h
      have h : some (z.cps.toList.getD (lo + n * k) 0) = some c := h
      rw [← h, List.getD_eq_getElem?_getD, List.getElem?_eq_getElem hlt]; rfl
    · rw [List.getElem?_eq_none (by rw [List.length_range]; omega)] at h
      cases h
theorem pick_len {z : Str} {o : Option Int} {lo n : Nat} (hn : 0 < n) (e : idxS z o (n : Int) = upS z.length lo n) : (pickS z o (n : Int)).cps.toList.length ≤ z.length ∧ (lo < z.length → 0 < (pickS z o (n : Int)).cps.toList.length) := by
  have hz := len_cps z
  unfold pickS
  by_cases cc : ((n : Int) == 1 && (idxS z o (n : Int)).length == z.length) = true
  · rw [if_pos cc]; omega
  · rw [if_neg cc, e]
    show ((upS z.length lo n).filterMap (z.cps[·]?)).length ≤ _ ∧ (_ → 0 < ((upS z.length lo n).filterMap (z.cps[·]?)).length)
    have e2 : (upS z.length lo n).filterMap (z.cps[·]?) = (List.range ((z.length - lo + n - 1) / n)).map fun k => z.cps.toList.getD (lo + n * k) 0 := by
      unfold upS
      rw [List.filterMap_map]
      refine fm_some _ fun k hk => ?_
      have hlt := up_lt hn (List.mem_range.mp hk)
      rw [len_cps] at hlt
      show z.cps[lo + n * k]? = some (z.cps.toList.getD (lo + n * k) 0)
      rw [List.getD_eq_getElem?_getD, List.getElem?_eq_getElem hlt, ← Array.getElem?_toList, List.getElem?_eq_getElem hlt]; rfl
    rw [e2, List.length_map, List.length_range]
    refine ⟨?_, fun h => Nat.div_pos (by omega) hn⟩
    by_cases q : lo < z.length
    · rw [Nat.div_le_iff_le_mul hn]
      have : z.length * n ≥ z.length - lo := Nat.le_trans (Nat.sub_le _ _) (Nat.le_mul_of_pos_right _ hn)
      omega
    · rw [Nat.div_eq_of_lt (by omega)]; exact Nat.zero_le _
def tStep (te : TE) (tl ts : TO) : TE := fun σ H Q => te σ H fun x H1 => tl σ H1 fun l H2 => ts σ H2 fun k H3 => ∃ (z : Str) (n : Int), x = .str z ∧ k = some n ∧ 0 < n ∧ z.length ≤ 100000 ∧ (pickS z l n).length ≤ 100000 ∧ Q (.str (pickS z l n)) H3
theorem pe_step {X : Cx} {e st : Expr} {lo : Option Expr} {te : TE} {tl ts : TO} {p2 pos : Pos} (he : PE X e te) (hl : PO X lo tl) (hs : PO X (some st) ts) : PE X (.Subscript e (.Slice lo none (some st) p2) pos) (tStep te tl ts) := by
  refine ⟨fun pins s σ H Q I h => ?_⟩
  refine Subscript_ (thn (he.run pins s σ H _ I h) fun v s1 ⟨x, H1, I1, r1, q1⟩ => ?_)
  refine wpAny_Slice (thn (hl.run pins s1 σ H1 _ I1 q1) fun vl s2 ⟨l, H2, I2, pl, q2⟩ => thn (po_none.run pins s2 σ H2 (fun o H3 => o = none ∧ H3 = H2) I2 ⟨rfl, rfl⟩) fun vu s3 ⟨u, H3, I3, pu, eu, e3⟩ => ?_)
  subst eu e3
  refine thn (hs.run pins s3 σ H3 _ I3 q2) fun vs s4 ⟨k, H4, I4, ps, q3⟩ => ?_
  obtain ⟨z, n, rfl, rfl, hn, hz, hp, q⟩ := q3
  have I5 : Inv X pins σ H4 { s4 with heap := s4.heap.push { cls := .type "slice", data := .fields #[vl, vu, vs] } } := I4.kept (t' := s4.toks) fun b ob q => Heap.get?_push_of_some _ q
  obtain ⟨t, rfl⟩ := r1
  obtain ⟨l', rfl, rfl⟩ := IsPart.raw pl
  obtain ⟨u', rfl, hu'⟩ := IsPart.raw pu
  obtain ⟨n', rfl, hn'⟩ := IsPart.raw ps
  cases u' with
  | some u => cases hu'
  | none =>
  cases n' with
  | none => cases hn'
  | some n' =>
    have en : n'.1 = n := Option.some.inj hn'
    subst en
    refine tail_any (ops := [.ref s4.heap.objs.size, .str z t]) (typeIs_str _ _ _) F.slot_str_getitem.lookup ?_ (by with_unfolding_all rfl)
    refine wpAny_getItem_str_slice (l := l') (u := none) (st := some n') ⟨_, Heap.get?_push_size _ rfl, rfl, rfl⟩ ?_ ?_
    · show (n'.1 == 0) = false
      exact beq_eq_false_iff_ne.mpr (by omega)
    · show Made.post (if (n'.1 == 1 && (idxS z (l'.map (·.1)) n'.1).length == z.length) = true then Made.val (.str z t) else Made.str ⟨((idxS z (l'.map (·.1)) n'.1).filterMap (z.cps[·]?)).toArray⟩) (EP X pins σ Q) _
      unfold pickS at q hp
      by_cases c : (n'.1 == 1 && (idxS z (l'.map (·.1)) n'.1).length == z.length) = true
      · rw [if_pos c] at q ⊢
        exact ⟨.str z, H4, I5, ⟨t, rfl⟩, q⟩
      · rw [if_neg c] at q hp ⊢
        exact ⟨big_ok hp, .str _, H4, I5.tok _, ⟨_, rfl⟩, q⟩
end Vf

set_option Elab.async false
set_option linter.all false
set_option maxRecDepth 100000
set_option maxHeartbeats 4000000
namespace Vf
open PySem PySem.Spec PyProof.Rows L2 TL
/-! ### k25: gaps hold, piece ends -/
theorem not_dec' {p : Prop} [Decidable p] (h : p) : (!decide p) = false := by rw [decide_eq_true h]; rfl
def gI (r n t : Nat) : List Int := (List.range t).map fun k => (gapF r n (k + 1) : Int)
theorem gI_sum (r n : Nat) : ∀ t, (gI r n t).sum = ((t + t * r / n : Nat) : Int)
  | 0 => by rw [← gs_tel r n 0]; rfl
  | t + 1 => by
    have ih := gI_sum r n t
    have e : gI r n (t + 1) = gI r n t ++ [(gapF r n (t + 1) : Int)] := by unfold gI; rw [List.range_succ, List.map_append]; rfl
    rw [e, List.sum_append, ih, ← gs_tel, ← gs_tel]
    show _ + ((gapF r n (t + 1) : Int) + 0) = ((gsT (gapF r n) t + gapF r n (t + 1) : Nat) : Int)
    omega
section
variable {P : Program} {w : World} {K : PySem.W.Frag} {mg : Str → Option Value} {base : Heap}
def spGH : Sp := fun vs H Q _ => ∃ (G : Addr) (M n r w0 : Nat) (close : Bool), vs = [nV M, .ref G, nV (w0 + n + n * r / n), .bl close] ∧ H G = some (.lst ((gI r n n).map V.int)) ∧ n ≤ 40 ∧ M ≤ 20000 ∧ w0 + n ≤ M ∧ r = (if close = true then 0 else M - (w0 + n)) ∧ ∀ H', Same H H' → Q (.bl true) H'
theorem ok_gh (T : Txt K mg) : FnOk P w K mg base CX0 1 T.a_law_gaps_hold T.d_law_gaps_hold ["_law_measure_here", "_law_gaps", "_law_behind", "_law_close"] spGH := by
  refine T.D_law_gaps_hold.F.ok sc_law_gaps_hold (fun vs H Q E h => ?_) (fun cdv A outer s H vs Q E hr h => ?_)
  · obtain ⟨_, _, _, _, _, _, rfl, _⟩ := h
    rfl
  · obtain ⟨G, M, n, r, w0, close, rfl, eG, hn, hM, hfit, hr1, q⟩ := h
    have lg : ((gI r n n).map V.int).length = n := by unfold gI; rw [List.length_map, List.length_map, List.length_range]
    have gs := gI_sum r n n
    refine ⟨_, (pss_cons (ps_set (i := 4) sc_law_gaps_hold.nd rfl (.inl rfl) (pe_op op_sub (pv 0) (pe_op op_add (pe_op op_sub (pv 2) (pe_callB (cr_sum (by rfl)) (by rfl) T.n_sum (by decide +kernel) (pa_cons (pv 1) pa_nil))) (pe_callB call_len_seq (by rfl) T.n_len PySem.boot_len (pa_cons (pv 1) pa_nil)))))
      (pss_cons (ps_if (pt_cmpR op_lt (pv 4) pe_int (nomark _)) (pss_one (ps_ret pe_bl)) pss_nil)
      (pss_cons (ps_if (PW.pt (pw_or (pt_val (pv 3)) (pw_or1 (pt_not (pt_truth (pv 1) (by intro _; rfl)))))) (pss_one (ps_ret (pe_callB (cr_all (by rfl)) (by rfl) T.n_all (by decide +kernel) (pa_cons (pe_lc (own := [("_law_gap", 7)]) (g := gName 7) (tt := tYes) rfl sc_law_gaps_hold.nd (pi_list (pv 1)) (blkOk_by (own := [("_law_gap", 7)]) (N := ["_law_measure_here", "_law_gaps", "_law_behind", "_law_close", "_law_extra", "_law_done", "_law_j", "_law_gap"]) (sc := (defScope s_law_gaps_hold)) (by decide +kernel)) (fun _ _ _ _ _ => (pg_name (i := 7) sc_law_gaps_hold.nd rfl (.inl rfl))) (fun _ _ _ _ _ => pts_nil) (fun _ _ _ _ _ => (pe_cmpR op_eq (pv 7) pe_int (nomark _)))) pa_nil)))) pss_nil)
      (pss_cons (ps_set (i := 5) sc_law_gaps_hold.nd rfl (.inl rfl) pe_int)
      (pss_cons (ps_for PassesOwn.never rfl (pi_range1 (by rfl) T.n_range (pa_cons (pe_callB call_len_seq (by rfl) T.n_len PySem.boot_len (pa_cons (pv 1) pa_nil)) pa_nil)) (pg_name (i := 6) sc_law_gaps_hold.nd rfl (.inl rfl)) (pss_cons (ps_set (i := 5) sc_law_gaps_hold.nd rfl (.inl rfl) (pe_op op_add (pv 5) (pe_ix ix_list (pv 1) (pv 6) (fun _ _ => rfl))))
      (pss_one (ps_if (pt_cmpR op_ne (pv 5) (pe_op op_add (pe_op op_add (pv 6) pe_int) (pe_op op_fdivN (pe_op op_mul (pe_op op_add (pv 6) pe_int) (pv 4)) (pe_callB call_len_seq (by rfl) T.n_len PySem.boot_len (pa_cons (pv 1) pa_nil)))) (nomark _)) (pss_one (ps_ret pe_bl)) pss_nil))))
      (pss_one (ps_ret (pe_cmpR op_eq (pv 2) (pv 0) (nomark _))))))))), ?_⟩
    refine ⟨_, rfl, _, rfl, _, rfl, G, _, rfl, SqL.of eG, _, _, rfl, rfl, _, rfl, G, _, rfl, .inl (SqL.of eG), _, _, rfl, rfl, _, _, rfl, rfl, ?_⟩
    have ee : V.int ((M : Int) - (((w0 + n + n * r / n : Nat) : Int) - (gI r n n).sum + ((((gI r n n).map V.int).length : Nat) : Int))) = nV (M - (w0 + n)) := congrArg V.int (by rw [lg, gs]; generalize n * r / n = z; omega)
    refine ⟨_, rfl, _, _, rfl, rfl, _, rfl, ?_⟩
    refine ifD (fun c => ?_) (fun c => ?_)
    · exfalso
      have c : (M : Int) - (((w0 + n + n * r / n : Nat) : Int) - (gI r n n).sum + ((((gI r n n).map V.int).length : Nat) : Int)) < 0 := c
      have e := V.int.inj ee
      rw [e] at c
      omega
    have emp : (!(((gI r n n).map V.int).isEmpty)) = !decide (n = 0) := by
      congr 1
      rw [Bool.eq_iff_iff]
      simp only [List.isEmpty_iff_length_eq_zero, lg, decide_eq_true_iff]
    have tor : ∀ (s t : TS) (D : Ends) (σ : L2.St), σ[3]? = some (some (.bl close)) → σ[1]? = some (some (.ref G)) → (close = true ∨ n = 0 → s D σ H) → (¬ (close = true ∨ n = 0) → t D σ H) → tIfS (tOr (tB (tVar 3)) (tNot (tTru K (tVar 1)))) s t D σ H := fun s t D σ e3 e1 h1 h2 =>
      ifs_or (p := close = true) (q := n = 0) (fun Q h => ⟨_, e3, close, rfl, by rw [dec_bl] at h; exact h⟩) (fun Q h => ⟨_, e1, !decide (n = 0), .inl ⟨_, SqL.of eG, emp.symm⟩, by show Q (!(!decide (n = 0))) H; rw [Bool.not_not]; exact h⟩) h1 h2
    refine tor _ _ _ _ rfl rfl (fun c => ?_) (fun c => ?_)
    · have er : r = 0 ∨ n = 0 := by
        rcases c with c | c
        · rw [if_pos c] at hr1; exact .inl hr1
        · exact .inr c
      refine ⟨_, rfl, G, rfl, ⟨_, SqL.of eG⟩, fun D nD => ?_⟩
      refine lc_it (walk_list (K := K) (a := G) (xs := (gI r n n).map V.int)) (fun t H' => Same H H' ∧ H' D = some (.lst ((List.replicate t true).map V.bl))) ⟨same_upd (Same.refl H) nD, upd_same⟩ ?_ ?_ ?_
      · rintro i H' _ ⟨k, _⟩
        exact SqL.of (k _ _ eG)
      · rintro t x Ha H2 ht ⟨k2, eD⟩ ⟨rfl, hx⟩
        rw [lg] at ht
        have hx1 : x = V.int 1 := by
          unfold gI at hx
          rw [List.getElem?_map, List.getElem?_map, List.getElem?_range ht] at hx
          have hx := (Option.some.inj hx).symm
          rcases er with er | er
          · rw [hx]
            show V.int ((gapF r n (t + 1) : Nat) : Int) = V.int 1
            rw [er]
            unfold gapF
            rw [Nat.mul_zero, Nat.mul_zero, Nat.zero_div]; rfl
          · omega
        subst hx1
        refine ⟨rfl, V.int 1, rfl, rfl, _, eD, by rw [List.length_map, List.length_replicate]; exact lt_s (by omega), same_mut k2 nD, ?_⟩
        rw [upd_same, List.replicate_succ', List.map_append]
        exact congrArg (fun z => some (HO.lst (_ ++ [z]))) (congrArg V.bl (decide_eq_true rfl))
      · rintro H2 ⟨k2, eD⟩
        refine ⟨D, _, rfl, SqL.of eD, ?_⟩
        rw [show (List.replicate ((gI r n n).map V.int).length true).all id = true from List.all_eq_true.mpr fun x hx => by rw [List.eq_of_mem_replicate hx]; rfl]
        exact q H2 k2
    · have c1 : close ≠ true := fun z => c (.inl z)
      have c2 : n ≠ 0 := fun z => c (.inr z)
      rw [if_neg c1] at hr1
      have mz := mid_div (r := r) (n := n) (by omega)
      have er4 : nV (M - (w0 + n)) = nV r := by rw [hr1]
      have step : ∀ t, ((t + t * r / n : Nat) : Int) + (gapF r n (t + 1) : Int) = ((t + 1 + (t + 1) * r / n : Nat) : Int) := fun t => by
        have h1 := gs_tel r n t
        have h2 := gs_tel r n (t + 1)
        have h3 : gsT (gapF r n) (t + 1) = gsT (gapF r n) t + gapF r n (t + 1) := rfl
        omega
      refine ⟨_, rfl, G, _, rfl, .inl (SqL.of eG), (n : Int), by rw [lg], by omega, by omega, ?_⟩
      rw [Int.toNat_natCast]
      refine for_it walk_range (fun t σ' H' => H' = H ∧ ∃ (x6 : Option V), σ' = [some (nV M), some (.ref G), some (nV (w0 + n + n * r / n)), some (.bl close), some (nV r), some (nV (t + t * r / n)), x6, none]) ⟨rfl, none, ?_⟩ (fun _ _ _ _ _ => trivial) ?_ ?_
      · have e0 : nV (0 + 0 * r / n) = V.int 0 := by rw [Nat.zero_mul, Nat.zero_div]; rfl
        rw [e0, ← er4, ← ee]; rfl
      · rintro t x σ' H0 H2 ht ⟨rfl, x6, rfl⟩ ⟨rfl, hx⟩
        have hx : x = nV t := by rw [hx]; exact int0 t
        subst hx
        have eg : ((gI r n n).map V.int)[t]? = some (V.int (gapF r n (t + 1) : Int)) := by
          unfold gI
          rw [List.getElem?_map, List.getElem?_map, List.getElem?_range ht]; rfl
        refine ⟨_, rfl, _, rfl, _, rfl, G, _, _, _, rfl, rfl, SqL.of eG, atI_nat eg, _, _, rfl, rfl, ?_⟩
        have m1 : CMul ((t : Int) + 1) (r : Int) := .inl ⟨by omega, by omega⟩
        have d1 : ∀ z : Int, CDivN z (((((gI r n n).map V.int).length : Nat) : Int)) := fun z => by rw [lg]; exact ⟨by omega, by omega⟩
        have ev : ((t : Int) + 1) + Int.fdiv (((t : Int) + 1) * (r : Int)) ((((gI r n n).map V.int).length : Nat) : Int) = ((t + 1 + (t + 1) * r / n : Nat) : Int) := by
          rw [lg, show ((t : Int) + 1) * (r : Int) = (((t + 1) * r : Nat) : Int) by rw [Int.natCast_mul]; rfl, fd_nat]; rfl
        have st := step t
        refine ⟨_, rfl, _, rfl, _, _, rfl, rfl, _, rfl, _, _, rfl, rfl, _, rfl, _, _, rfl, rfl, m1, _, rfl, G, _, rfl, .inl (SqL.of eG), _, _, rfl, rfl, d1 _, _, _, rfl, rfl, ?_⟩
        refine ⟨rfl, false, congrArg V.bl (not_dec' (congrArg V.int (st.trans ev.symm))), ?_⟩
        refine iteF ?_
        exact ⟨rfl, some (nV t), congrArg (fun z => [some (nV M), some (V.ref G), some (nV (w0 + n + n * r / n)), some (.bl close), some (nV r), some (V.int z), some (nV t), none]) st⟩
      · rintro σ' H2 ⟨rfl, x6, rfl⟩
        refine ⟨_, rfl, _, rfl, rfl, ?_⟩
        have eb : w0 + n + n * r / n = M := by rw [mz]; omega
        rw [eb, decide_eq_true rfl]
        exact q _ (Same.refl _)
end
end Vf

set_option Elab.async false
set_option linter.all false
set_option maxRecDepth 100000
set_option maxHeartbeats 4000000
namespace Vf
open PySem PySem.Spec PyProof.Rows L2 TL
def own (c : Nat) : Bool := decide (c ≠ 95) && decide (c ≠ 45)
theorem own_rep (n : Nat) : (List.replicate n 95).filter own = [] := by
  refine List.filter_eq_nil_iff.mpr fun c hc => ?_
  rw [List.eq_of_mem_replicate hc]; decide
theorem piece_own {S : Sty} {z : List Nat} (hz : ∀ c ∈ z, own c = true) (i j : Nat) (hj : j ≤ z.length) : ((pieceN S z i j).filter own).length = j - i := by
  unfold pieceN
  rw [List.filter_append, List.length_append]
  have h2 : (List.filter own (if j < z.length then [45] else [])).length = 0 := by
    split <;> rfl
  rw [h2, Nat.add_zero]
  have h : ∀ (ks : List Nat), (∀ k ∈ ks, k < z.length) → ((ks.flatMap fun k => z.getD k 0 :: List.replicate (wAt S z j k - 1) 95).filter own).length = ks.length := fun ks => by
    induction ks with
    | nil => intro _; rfl
    | cons k r ih =>
      intro hk
      have h1 := hk k List.mem_cons_self
      have h3 : own (z.getD k 0) = true := by
        have e : z[k]? = some z[k] := List.getElem?_eq_getElem h1
        rw [List.getD_eq_getElem?_getD, e]
        exact hz _ (List.getElem_mem h1)
      rw [List.flatMap_cons, List.filter_append, List.length_append, ih fun x hx => hk x (List.mem_cons_of_mem _ hx), List.filter_cons_of_pos h3, own_rep]
      show 1 + r.length = r.length + 1
      omega
  rw [h _ fun k hk => by rw [List.mem_range'_1] at hk; omega, List.length_range']
theorem piece_inj {S : Sty} {z : List Nat} (hz : ∀ c ∈ z, own c = true) {i j j' : Nat} (h : i ≤ j) (h' : i ≤ j') (hj : j ≤ z.length) (hj' : j' ≤ z.length) (e : pieceN S z i j = pieceN S z i j') : j = j' := by
  have h1 := piece_own (S := S) hz i j hj
  rw [e, piece_own hz i j' hj'] at h1
  omega
theorem sV_in {a b : List Nat} (h : sV a = sV b) : a = b := by
  have h1 : mkS a = mkS b := V.str.inj h
  have h2 := congrArg (fun s : Str => s.cps.toList) h1
  simpa [mkS] using h2
section
variable {P : Program} {w : World} {K : PySem.W.Frag} {mg : Str → Option Value} {base : Heap}
def spPE : Sp := fun vs H Q _ => ∃ (v : V) (S : Sty) (z : List Nat) (a b : Nat), vs = [v, sV z, nV a, sV (pieceN S z a b)] ∧ StyV H v S ∧ StyOk S ∧ WdOk z ∧ (∀ c ∈ z, own c = true) ∧ a < b ∧ b ≤ z.length ∧ (b = z.length ∨ ∃ (t : Nat) (r : Nat × Nat), (places S z)[t]? = some r ∧ r.1 = b) ∧ ∀ H', Same H H' → Q (nV b) H'
theorem ok_pend (T : Txt K mg) : FnOk P w K mg base CX0 2 T.a_law_piece_end T.d_law_piece_end ["_law_style", "_law_word", "_law_place", "_law_part"] spPE := by
  have G_law_places : FnOk P w K mg base CX0 1 T.a_law_places T.d_law_places ["_law_style", "_law_word"] spLawPlaces := ok_law_places T
  have G_law_piece : FnOk P w K mg base CX0 1 T.a_law_piece T.d_law_piece ["_law_style", "_law_word", "_law_first", "_law_behind"] spLawPiece := ok_law_piece T
  refine T.D_law_piece_end.F.ok sc_law_piece_end (fun vs H Q E h => ?_) (fun cdv A outer s H vs Q E hr h => ?_)
  · obtain ⟨_, _, _, _, _, rfl, _⟩ := h
    rfl
  · obtain ⟨v, S, z, a, b, rfl, sv, st, wd, hz, hab, hb, hp, q⟩ := h
    have hbz : (mkS z).length ≤ sizeLine := by rw [mkS_len]; exact big_ok (by have := wd.len; omega)
    have lz : nV z.length = V.int ((mkS z).length : Nat) := by rw [mkS_len]; rfl
    refine ⟨_, (pss_cons (ps_if (pt_cmpR op_eq (pv 3) (pe_call G_law_piece (hr.mono (by decide)) (by rfl) T.D_law_piece.G T.D_law_piece.F.kp T.D_law_piece.B .nil pass0 (pa_cons (pv 0) (pa_cons (pv 1) (pa_cons (pv 2) (pa_cons (pe_callB call_len_str (by rfl) T.n_len PySem.boot_len (pa_cons (pv 1) pa_nil)) pa_nil))))) (nomark _)) (pss_one (ps_ret (pe_callB call_len_str (by rfl) T.n_len PySem.boot_len (pa_cons (pv 1) pa_nil)))) pss_nil)
      (pss_cons (ps_for PassesOwn.never rfl (pi_list (pe_call G_law_places (hr.mono (by decide)) (by rfl) T.D_law_places.G T.D_law_places.F.kp T.D_law_places.B .nil pass0 (pa_cons (pv 0) (pa_cons (pv 1) pa_nil)))) (pg_tup (by rfl) (pgs_cons (pg_name (i := 4) sc_law_piece_end.nd rfl (.inl rfl)) (pgs_cons (pg_name (i := 5) sc_law_piece_end.nd rfl (.inl rfl)) pgs_nil))) (pss_one (ps_if (PW.pt (pw_and (pt_cmpR op_gt (pv 4) (pv 2) (nomark _)) (pw_and1 (pt_cmpR op_eq (pv 3) (pe_call G_law_piece (hr.mono (by decide)) (by rfl) T.D_law_piece.G T.D_law_piece.F.kp T.D_law_piece.B .nil pass0 (pa_cons (pv 0) (pa_cons (pv 1) (pa_cons (pv 2) (pa_cons (pv 4) pa_nil))))) (nomark _))))) (pss_one (ps_ret (pv 4))) pss_nil)))
      (pss_one (ps_ret pe_non)))), ?_⟩
    refine ⟨_, rfl, _, rfl, _, rfl, _, rfl, _, rfl, _, rfl, hbz, ?_⟩
    refine ⟨v, S, z, a, z.length, congrArg (fun x => [v, sV z, nV a, x]) lz.symm, sv, st, wd, by omega, Nat.le_refl _, ?_⟩
    refine ⟨rfl, _, rfl, ?_⟩
    refine ifD (fun c => ?_) (fun c => ?_)
    · have e := piece_inj hz (by omega) (by omega) hb (Nat.le_refl _) (sV_in c)
      refine ⟨_, rfl, _, rfl, hbz, ?_⟩
      rw [← lz, ← e]
      exact q H (Same.refl H)
    · have hne : b ≠ z.length := fun e => c (by rw [e])
      obtain ⟨t0, r0, et0, er0⟩ := hp.resolve_left hne
      refine ⟨_, rfl, _, rfl, v, S, z, rfl, sv, st, wd, fun L ps H1 nL k1 eL pl => ?_⟩
      have pll := pl.1
      refine ⟨L, rfl, ⟨_, SqL.of eL⟩, ?_⟩
      refine for_it (walk_list (K := K) (a := L) (xs := ps)) (fun t σ' H' => H' = H1 ∧ t ≤ t0 ∧ ∃ (x4 x5 : Option V), σ' = [some v, some (sV z), some (nV a), some (sV (pieceN S z a b)), x4, x5]) ⟨rfl, Nat.zero_le _, none, none, rfl⟩ ?_ ?_ ?_
      · rintro t σ' H' _ ⟨rfl, _⟩
        exact SqL.of eL
      · rintro t x σ' H' H2 ht ⟨rfl, htt, x4, x5, rfl⟩ ⟨rfl, hx⟩
        obtain ⟨r, er, bb, rfl, eb⟩ := pl.at hx
        have rb := places_bd (List.mem_of_getElem? er)
        refine ⟨bb, _, rfl, SqT.of eb, rfl, _, _, rfl, _, _, rfl, rfl, ?_⟩
        have nxt : r.1 ≠ b → t + 1 ≤ t0 := fun hn => by
          rcases Nat.lt_or_ge t t0 with h | h
          · exact h
          · exfalso
            have e : t = t0 := by omega
            subst e
            exact hn (by rw [Option.some.inj (er.symm.trans et0)]; exact er0)
        refine ⟨_, rfl, _, rfl, _, _, rfl, rfl, _, rfl, ?_⟩
        refine ifD (fun c1 => ?_) (fun c1 => ?_)
        · have c1 : (a : Int) < (r.1 : Int) := c1
          refine ⟨_, rfl, _, rfl, _, rfl, _, rfl, _, rfl, v, S, z, a, r.1, rfl, sv.mono (same_tup k1), st, wd, by omega, by omega, ?_⟩
          refine ⟨rfl, _, rfl, ?_⟩
          refine ifD (fun c2 => ?_) (fun c2 => ?_)
          · have e := piece_inj hz (by omega) (by omega) hb (by omega) (sV_in c2)
            refine ⟨_, rfl, ?_⟩
            rw [show natV r.1 = nV b by rw [e]; rfl]
            exact q H2 k1
          · exact ⟨rfl, nxt fun e => c2 (by rw [e]), _, _, rfl⟩
        · have c1 : ¬ (a : Int) < (r.1 : Int) := c1
          refine iteF ?_
          exact ⟨rfl, nxt (by omega), _, _, rfl⟩
      · rintro σ' H' ⟨rfl, htt, _⟩
        have := (List.getElem?_eq_some_iff.mp et0).1
        omega
end
end Vf

set_option Elab.async false
set_option linter.all false
set_option maxRecDepth 100000
set_option maxHeartbeats 4000000
namespace Vf
open PySem PySem.Spec PyProof.Rows L2 TL
section
variable {P : Program} {w : World} {K : PySem.W.Frag} {mg : Str → Option Value} {base : Heap}
def spPosn : Sp := fun vs H Q _ => ∃ (v xw : V) (wa ta : Addr) (ws : List V) (S : Sty) (z : List Nat) (i k e q0 : Nat), vs = [v, .ref wa, .ref ta] ∧ StyV H v S ∧ StyOk S ∧ WdOk z ∧ H wa = some (.tup ws) ∧ H ta = some (.tup [nV i, nV e]) ∧
  (k = 0 → e = 0) ∧ (0 < k → ws[i]? = some xw ∧ WkV H xw (z, q0) ∧ ∃ r, (places S z)[k - 1]? = some r ∧ r.1 = e) ∧ ∀ H' x, Same H H' → FgV H' x (i, k) → Q x H'
theorem ok_posn (T : Txt K mg) : FnOk P w K mg base CX0 2 T.a_law_position T.d_law_position ["_law_style", "_law_words", "_law_at"] spPosn := by
  have G_law_places : FnOk P w K mg base CX0 1 T.a_law_places T.d_law_places ["_law_style", "_law_word"] spLawPlaces := ok_law_places T
  refine T.D_law_position.F.ok sc_law_position (fun vs H Q E h => ?_) (fun cdv A outer s H vs Q E hr h => ?_)
  · obtain ⟨_, _, _, _, _, _, _, _, _, _, _, rfl, _⟩ := h
    rfl
  · obtain ⟨v, xw, wa, ta, ws, S, z, i, k, e, q0, rfl, sv, st, wd, ew, et, h0, h1, q⟩ := h
    refine ⟨_, (pss_cons (ps_if (pt_cmpR op_eq (pe_ix ix_tup (pv 2) pe_int (fun _ _ => rfl)) pe_int (nomark _)) (pss_one (ps_ret (pv 2))) pss_nil)
      (pss_cons (ps_setLc (i := 3) (own := [("_law_place", 4), ("_law_price", 5)]) (g := (gTup K 2 (gCons (gName 4) (gCons (gName 5) gNil)))) (tt := tYes) rfl sc_law_position.nd rfl rfl (sw_true rfl rfl rfl (by decide +kernel)) (pi_list (pe_call G_law_places (hr.mono (by decide)) (by rfl) T.D_law_places.G T.D_law_places.F.kp T.D_law_places.B .nil pass0 (pa_cons (pv 0) (pa_cons (pe_ix ix_tup (pe_ix ix_tup (pv 1) (pe_ix ix_tup (pv 2) pe_int (fun _ _ => rfl)) (fun _ _ => rfl)) pe_int (fun _ _ => rfl)) pa_nil)))) (blkOk_by (own := [("_law_place", 4), ("_law_price", 5)]) (N := ["_law_style", "_law_words", "_law_at", "_law_places_here", "_law_place", "_law_price"]) (sc := (defScope s_law_position)) (by decide +kernel)) (fun _ _ _ _ _ => (pg_tup (by rfl) (pgs_cons (pg_name (i := 4) sc_law_position.nd rfl (.inl rfl)) (pgs_cons (pg_name (i := 5) sc_law_position.nd rfl (.inl rfl)) pgs_nil)))) (fun _ _ _ _ _ => pts_nil) (fun _ _ _ _ _ => (pv 4)))
      (pss_one (ps_ret (pe_tup (pa_cons (pe_ix ix_tup (pv 2) pe_int (fun _ _ => rfl)) (pa_cons (pe_op op_add pe_int (pe_bm PySem.F.plainAttrs_list PySem.F.slot_list_index PySem.F.type_list_index mt_index (pv 3) (pa_cons (pe_ix ix_tup (pv 2) pe_int (fun _ _ => rfl)) pa_nil))) pa_nil))))))), ?_⟩
    refine ⟨_, rfl, ta, _, 1, _, rfl, rfl, SqT.of et, rfl, rfl, _, rfl, ?_⟩
    refine ifD (fun c => ?_) (fun c => ?_)
    · have c : e = 0 := Int.ofNat.inj (V.int.inj c)
      have hk : k = 0 := by
        rcases Nat.eq_zero_or_pos k with h | h
        · exact h
        · obtain ⟨_, _, r, er, e2⟩ := h1 h
          have := places_bd (List.mem_of_getElem? er)
          omega
      refine ⟨_, rfl, q H _ (Same.refl H) ⟨ta, rfl, ?_⟩⟩
      rw [et, c, hk]
    · have hk : 0 < k := by
        rcases Nat.eq_zero_or_pos k with h | h
        · exact absurd (by rw [h0 h]; rfl) c
        · exact h
      obtain ⟨exw, ⟨bw, rfl, ebw⟩, r, er, rfl⟩ := h1 hk
      refine ⟨_, rfl, _, rfl, _, rfl, ta, _, 0, _, rfl, rfl, SqT.of et, rfl, wa, _, _, _, rfl, rfl, SqT.of ew, atI_nat exw, bw, _, 0, _, rfl, rfl, SqT.of ebw, rfl, v, S, z, rfl, sv, st, wd, fun L ps H1 nL k1 eL pl => ?_⟩
      have pll := pl.1
      have z16 := wd.len
      have lp := List.length_filterMap_le (fun k => (look S.B (z.getD (k - 1) 0, z.getD k 0)).map fun p => (k, p)) (List.range' 2 (z.length - 3))
      rw [List.length_range'] at lp
      have lp : (places S z).length ≤ z.length - 3 := lp
      refine ⟨L, rfl, ⟨_, SqL.of eL⟩, fun C nC => ?_⟩
      refine lc_it (walk_list (K := K) (a := L) (xs := ps)) (fun t H' => Same H1 H' ∧ H' C = some (.lst (((places S z).take t).map fun r : Nat × Nat => natV r.1))) ⟨same_upd (Same.refl H1) nC, upd_same⟩ ?_ ?_ ?_
      · rintro t H' _ ⟨k4, _⟩
        exact SqL.of (k4 _ _ eL)
      · rintro t x Ha H4 ht ⟨k4, eC⟩ ⟨rfl, hx⟩
        obtain ⟨r', er', b, rfl, eb⟩ := pl.at hx
        refine ⟨b, _, rfl, SqT.of (k4 _ _ eb), rfl, _, _, rfl, _, _, rfl, rfl, by kernel_rfl, natV r'.1, by kernel_rfl, _, eC, ?_, same_mut k4 nC, ?_⟩
        · rw [List.length_map, List.length_take]; exact lt_s (by omega)
        · rw [upd_same, show (places S z).take (t + 1) = (places S z).take t ++ [r'] by rw [List.take_succ, er']; rfl, List.map_append]; rfl
      rintro H4 ⟨k4, eC⟩
      rw [pll, List.take_length] at eC
      have k14 := k1.trans k4
      have et4 := k14 _ _ et
      have hat : ((places S z).map fun r : Nat × Nat => natV r.1)[k - 1]? = some (nV r.1) := by rw [List.getElem?_map, er]; rfl
      refine ⟨_, rfl, ta, _, 0, _, rfl, rfl, SqT.of et4, rfl, .ref C, rfl, .inl ⟨rfl, _, .inl (.inl eC)⟩, _, rfl, ta, _, 1, _, rfl, rfl, SqT.of et4, rfl, ?_⟩
      have flat : ((places S z).map fun r : Nat × Nat => natV r.1).all flatV = true := List.all_eq_true.mpr fun x hx => by
        obtain ⟨_, _, rfl⟩ := List.mem_map.mp hx
        rfl
      have less : ∀ (m : Nat) (z' : V), m < k - 1 → ((places S z).map fun r : Nat × Nat => natV r.1)[m]? = some z' → eqV z' (nV r.1) = false := fun m z' hm hz' => by
        rw [List.getElem?_map] at hz'
        cases em : (places S z)[m]? with
        | none => rw [em] at hz'; cases hz'
        | some r' =>
          rw [em] at hz'
          have hz' : natV r'.1 = z' := Option.some.inj hz'
          subst hz'
          obtain ⟨l1, e1⟩ := List.getElem?_eq_some_iff.mp em
          obtain ⟨l2, e2⟩ := List.getElem?_eq_some_iff.mp er
          have h := List.pairwise_iff_getElem.mp (places_asc S z) m (k - 1) l1 l2 hm
          rw [e1, e2] at h
          show ((r'.1 : Int) == (r.1 : Int)) = false
          exact beq_eq_false_iff_ne.mpr (by omega)
      have self : eqV (nV r.1) (nV r.1) = true := by
        show ((r.1 : Int) == (r.1 : Int)) = true
        exact beq_self_eq_true _
      refine ⟨C, _, _, k - 1, _, rfl, rfl, SqL.of eC, rfl, flat, hat, self, less, _, _, rfl, rfl, by show 2 ≤ sizeLine; decide, fun p np => ?_⟩
      have ek : V.int (1 + ((k - 1 : Nat) : Int)) = nV k := congrArg V.int (by omega)
      refine q _ (.ref p) (same_upd k14 np) ⟨p, rfl, ?_⟩
      rw [upd_same]
      exact congrArg (fun z => some (HO.tup [nV i, z])) ek
end
end Vf

set_option Elab.async false
set_option linter.all false
set_option maxRecDepth 100000
set_option maxHeartbeats 4000000
namespace Vf
open PySem PySem.Spec PyProof.Rows L2 TL
open PySem.Builtin.Str (occurrences subAt partsBetween strSub)
/-! ### the first part of a split text -/
theorem occ_keep (s sub : Str) (hi limit i : Nat) : ∀ (l : List Nat) (st : Array Nat × Nat), st.fst[0]? = some i → (forIn (m := Id) l st (StrLaws.occBody s sub hi limit)).run.fst[0]? = some i
  | [], st, h => h
  | a :: l, st, h => by
    rw [List.forIn_cons]
    unfold StrLaws.occBody
    split
    · refine occ_keep s sub hi limit i l _ ?_
      show (st.fst.push a)[0]? = some i
      rw [Array.getElem?_push, h]
      split
      · rename_i e
        have := (Array.getElem?_eq_some_iff.mp h).1
        omega
      · rfl
    · exact occ_keep s sub hi limit i l st h
theorem occ_runL {x : Str} {c lim : Nat} (hlim : 0 < lim) (hc : c ∈ x.cps.toList) : ∀ (n a : Nat), a ≤ x.cps.toList.idxOf c → x.cps.toList.idxOf c < a + n →
    (forIn (m := Id) (List.range' a n) ((#[] : Array Nat), 0) (StrLaws.occBody x ⟨#[c]⟩ x.length lim)).run.fst[0]? = some (x.cps.toList.idxOf c)
  | 0, a, h1, h2 => absurd h2 (by omega)
  | n + 1, a, h1, h2 => by
    rw [List.range'_succ, List.forIn_cons]
    unfold StrLaws.occBody
    by_cases e : a = x.cps.toList.idxOf c
    · have g := (StrLaws.subAt_one x c a).mpr (by rw [e]; exact at_idx hc)
      rw [if_pos ⟨⟨⟨hlim, Nat.zero_le _⟩, g.1⟩, g.2⟩]
      refine occ_keep x ⟨#[c]⟩ x.length lim _ (List.range' (a + 1) n) ((#[] : Array Nat).push a, a + (⟨#[c]⟩ : Str).length) ?_
      rw [← e]; rfl
    · have lt : a < x.cps.toList.idxOf c := by omega
      rw [if_neg (fun z => before_idx lt ((StrLaws.subAt_one x c a).mp ⟨z.1.2, z.2⟩))]
      exact occ_runL hlim hc n (a + 1) lt (by omega)
theorem occ_head {x : Str} {c lim : Nat} (hlim : 0 < lim) (hc : c ∈ x.cps.toList) : ∃ r, occurrences x ⟨#[c]⟩ 0 x.length lim = x.cps.toList.idxOf c :: r := by
  have h := occ_runL (x := x) hlim hc (x.length + 1) 0 (Nat.zero_le _) (by
    have h := (List.getElem?_eq_some_iff.mp (at_idx hc)).1
    have e : x.length = x.cps.toList.length := len_cps x
    omega)
  rw [StrLaws.occ_eq]
  generalize (forIn (m := Id) (List.range' 0 (x.length + 1)) ((#[] : Array Nat), 0) (StrLaws.occBody x ⟨#[c]⟩ x.length lim)).run.fst = A at h
  rw [← Array.getElem?_toList] at h
  cases e : A.toList with
  | nil => rw [e] at h; cases h
  | cons x0 r =>
    rw [e] at h
    have h := Option.some.inj h
    exact ⟨r, by rw [← h]⟩
theorem idx_app {r : List Nat} : ∀ {p : List Nat}, (∀ c ∈ p, c ≠ 32) → (p ++ 32 :: r).idxOf 32 = p.length
  | [], _ => by rw [List.nil_append, List.idxOf_cons_self]; rfl
  | a :: p, h => by
    rw [List.cons_append, List.idxOf_cons, beq_eq_false_iff_ne.mpr (h a List.mem_cons_self), idx_app fun c hc => h c (List.mem_cons_of_mem _ hc)]; rfl
theorem kind_one (x : Str) : 1 ≤ PySem.Builtin.Str.strKind x := by
  unfold PySem.Builtin.Str.strKind
  split
  · decide
  · split <;> decide
theorem split_head {p rest : List Nat} (hp : p ≠ []) (h32 : ∀ c ∈ p, c ≠ 32) (hr : rest = [] ∨ ∃ r, rest = 32 :: r) : ∃ ps, Txt.split (mkS (p ++ rest)) (mkS [32]) = mkS p :: ps := by
  have hl : 0 < (mkS (p ++ rest)).length := by
    rw [mkS_len, List.length_append]
    have := List.length_pos_iff.mpr hp
    omega
  have k1 : PySem.Builtin.Str.strKind (mkS [32]) = 1 := by decide +kernel
  have k2 := kind_one (mkS (p ++ rest))
  have l1 : (mkS [32]).length = 1 := rfl
  have c0 : (decide ((mkS (p ++ rest)).length < (mkS [32]).length) || decide (PySem.Builtin.Str.strKind (mkS (p ++ rest)) < PySem.Builtin.Str.strKind (mkS [32]))) = false := by
    rw [l1, k1, decide_eq_false (by omega), decide_eq_false (by omega)]; rfl
  have tl : (mkS (p ++ rest)).cps.toList = p ++ rest := by unfold mkS; simp
  unfold Txt.split
  rw [c0, if_neg (by decide)]
  rcases hr with rfl | ⟨r, rfl⟩
  · have h0 : occurrences (mkS (p ++ [])) (mkS [32]) 0 (mkS (p ++ [])).length ((mkS (p ++ [])).length + 1) = [] := PySem.W.occ_nil_of_no _ _ _ fun i hi => by
      cases hs : subAt (mkS (p ++ [])) (mkS [32]) i with
      | false => rfl
      | true =>
        exfalso
        have g := (StrLaws.subAt_one (mkS (p ++ [])) 32 i).mp ⟨hi, hs⟩
        rw [tl, List.append_nil] at g
        exact h32 32 (List.mem_of_getElem? g) rfl
    rw [h0, if_pos (show ([] : List Nat).isEmpty = true from rfl), List.append_nil]
    exact ⟨[], rfl⟩
  · have hm : 32 ∈ (mkS (p ++ 32 :: r)).cps.toList := by rw [tl]; simp
    obtain ⟨q, hq⟩ := occ_head (x := mkS (p ++ 32 :: r)) (c := 32) (lim := (mkS (p ++ 32 :: r)).length + 1) (Nat.succ_pos _) hm
    have hi : (p ++ 32 :: r).idxOf 32 = p.length := by
      exact idx_app h32
    rw [tl, hi] at hq
    have hq : occurrences (mkS (p ++ 32 :: r)) (mkS [32]) 0 (mkS (p ++ 32 :: r)).length ((mkS (p ++ 32 :: r)).length + 1) = p.length :: q := hq
    rw [hq, if_neg (by show ¬ ((false : Bool) = true); decide)]
    unfold partsBetween
    refine ⟨_, congrArg (· :: _) ?_⟩
    show strSub (mkS (p ++ 32 :: r)) 0 p.length = mkS p
    unfold strSub mkS
    simp
end Vf

set_option Elab.async false
set_option linter.all false
set_option maxRecDepth 100000
set_option maxHeartbeats 4000000
namespace Vf
open PySem PySem.Spec PyProof.Rows L2 TL
theorem and_one {a b : TT} {σ : L2.St} {H : Hp} {p q : Prop} [Decidable p] [Decidable q] (ha : ∀ R : Bool → Hp → Prop, R (decide p) H → a σ H R) (hb : ∀ R : Bool → Hp → Prop, R (decide q) H → b σ H R) : ∀ R : Bool → Hp → Prop, R (decide (p ∧ q)) H → tAnd a b σ H R := fun R h => by
  refine ha _ ?_
  by_cases c : p
  · rw [decide_eq_true c]
    refine hb _ ?_
    rw [show decide q = decide (p ∧ q) from decide_eq_decide.mpr ⟨fun z => ⟨c, z⟩, fun z => z.2⟩]
    exact h
  · rw [decide_eq_false c]
    rw [decide_eq_false fun z : p ∧ q => c z.1] at h
    exact h
/-- a run of signs begins at x -/
def stR (l : List Nat) (x : Nat) : Bool := decide (l.getD x 0 ≠ 32) && (decide (x = 0) || decide (l.getD (x - 1) 0 = 32))
def rnP (l : List Nat) (x : Nat) : List Nat := (l.drop x).takeWhile fun c => decide (c ≠ 32)
def runsL (l : List Nat) (n : Nat) : List (Nat × List Nat) := (List.range n).filterMap fun x => if stR l x = true then some (x, rnP l x) else none
def RunV (H : Hp) (x : V) (r : Nat × List Nat) : Prop := ∃ b, x = .ref b ∧ H b = some (.tup [nV r.1, sV r.2])
theorem RunV.kt {H H' : Hp} {x : V} {r : Nat × List Nat} (h : RunV H x r) (k : ∀ a xs, H a = some (.tup xs) → H' a = some (.tup xs)) : RunV H' x r := by
  obtain ⟨b, e, h1⟩ := h
  exact ⟨b, e, k _ _ h1⟩
theorem tw_mem : ∀ (l : List Nat) (c : Nat), c ∈ (l.takeWhile fun c => decide (c ≠ 32)) → c ≠ 32
  | [], c, h => by cases h
  | a :: l, c, h => by
    rw [List.takeWhile_cons] at h
    by_cases ha : a ≠ 32
    · rw [if_pos (show decide (a ≠ 32) = true from decide_eq_true ha)] at h
      rcases List.mem_cons.mp h with e | e
      · rw [e]; exact ha
      · exact tw_mem l c e
    · rw [if_neg (show ¬ decide (a ≠ 32) = true from fun z => ha (of_decide_eq_true z))] at h
      cases h
theorem rn_split {l : List Nat} {x : Nat} (hx : x < l.length) (h : l.getD x 0 ≠ 32) : ∃ ps, Txt.split (mkS (l.drop x)) (mkS [32]) = mkS (rnP l x) :: ps := by
  have e : l.drop x = rnP l x ++ (l.drop x).dropWhile fun c => decide (c ≠ 32) := (List.takeWhile_append_dropWhile).symm
  have g : l[x]? = some (l.getD x 0) := by rw [List.getD_eq_getElem?_getD, List.getElem?_eq_getElem hx]; rfl
  have hd : l.drop x = l.getD x 0 :: l.drop (x + 1) := drop_y g
  rw [e]
  refine split_head ?_ ?_ ?_
  · unfold rnP
    rw [hd, List.takeWhile_cons, if_pos (show decide (l.getD x 0 ≠ 32) = true from decide_eq_true h)]
    simp
  · intro c hc
    exact tw_mem _ _ hc
  · cases e2 : (l.drop x).dropWhile (fun c => decide (c ≠ 32)) with
    | nil => exact .inl rfl
    | cons a r =>
      refine .inr ⟨r, ?_⟩
      have hne : (l.drop x).dropWhile (fun c => decide (c ≠ 32)) ≠ [] := by rw [e2]; simp
      have := List.head_dropWhile_not (fun c => decide (c ≠ 32)) hne
      simp only [e2, List.head_cons, decide_eq_false_iff_not, Decidable.not_not] at this
      rw [this]
theorem sp_sgn : V.str " " = sgn 32 := congrArg V.str blk_mk
theorem or_one {a b : TT} {σ : L2.St} {H : Hp} {p q : Prop} [Decidable p] [Decidable q] (ha : ∀ R : Bool → Hp → Prop, R (decide p) H → a σ H R) (hb : ¬ p → ∀ R : Bool → Hp → Prop, R (decide q) H → b σ H R) : ∀ R : Bool → Hp → Prop, R (decide (p ∨ q)) H → tOr a b σ H R := fun R h => by
  refine ha _ ?_
  by_cases c : p
  · rw [decide_eq_true c]
    rw [decide_eq_true (show p ∨ q from .inl c)] at h
    exact h
  · rw [decide_eq_false c]
    refine hb c _ ?_
    rw [show decide q = decide (p ∨ q) from decide_eq_decide.mpr ⟨fun z => .inr z, fun z => z.resolve_left c⟩]
    exact h
theorem cutDr {zs : List Nat} {j : Nat} (h : j ≤ zs.length) : cutS (mkS zs) (some (j : Int)) none = mkS (zs.drop j) := by
  unfold cutS
  rw [HT.sIx_nat, HT.sIx_none, mkS_len, Nat.min_eq_left h]
  show mkS ((zs.drop j).take (zs.length - j)) = _
  rw [List.take_of_length_le (by rw [List.length_drop]; exact Nat.le_refl _)]
theorem cutTo {l : List Nat} {n : Nat} (h : n < l.length) : cutS (mkS l) (some (n : Int)) none = mkS (l.drop n) := cutDr (Nat.le_of_lt h)
theorem eq_sp (c : Nat) : decide (sgn c = V.str " ") = decide (c = 32) := by rw [sp_sgn, sgn_eq]
theorem ne_sp (c : Nat) : (!decide (sgn c = V.str " ")) = decide (c ≠ 32) := by rw [eq_sp]; exact (decide_not).symm
theorem nV_zero (n : Nat) : decide (nV n = V.int 0) = decide (n = 0) := decide_eq_decide.mpr ⟨fun h => Int.ofNat.inj (V.int.inj h), fun h => by rw [h]; rfl⟩
theorem at_pred {l : List Nat} {n : Nat} (h : n < l.length) (h0 : ¬ n = 0) : atI l ((n : Int) - 1) = some (l.getD (n - 1) 0) := by
  rw [show (n : Int) - 1 = ((n - 1 : Nat) : Int) by omega]
  refine atI_nat ?_
  rw [List.getD_eq_getElem?_getD, List.getElem?_eq_getElem (by omega)]; rfl
theorem stR_iff {l : List Nat} {n : Nat} : stR l n = true ↔ (l.getD n 0 ≠ 32 ∧ (n = 0 ∨ l.getD (n - 1) 0 = 32)) := by
  unfold stR
  simp
theorem ifs_of {c : TT} {s t : TS} {D : Ends} {σ : L2.St} {H : Hp} {p : Prop} [Decidable p] (hc : ∀ R : Bool → Hp → Prop, R (decide p) H → c σ H R) (h1 : p → s D σ H) (h2 : ¬ p → t D σ H) : tIfS c s t D σ H := by
  refine hc _ ?_
  by_cases h : p
  · rw [decide_eq_true h]; exact h1 h
  · rw [decide_eq_false h]; exact h2 h
section
variable {P : Program} {w : World} {K : PySem.W.Frag} {mg : Str → Option Value} {base : Heap}
def spRuns : Sp := fun vs H Q _ => ∃ (l : List Nat), vs = [sV l] ∧ l.length ≤ 20000 ∧ ∀ H' L us, Same H H' → H' L = some (.lst us) → LV (RunV H') us (runsL l l.length) → Q (.ref L) H'
theorem ok_runs (T : Txt K mg) : FnOk P w K mg base CX0 1 T.a_law_runs T.d_law_runs ["_law_signs"] spRuns := by
  refine T.D_law_runs.F.ok sc_law_runs (fun vs H Q E h => ?_) (fun cdv A outer s H vs Q E hr h => ?_)
  · obtain ⟨_, rfl, _⟩ := h
    rfl
  · obtain ⟨l, rfl, hl, q⟩ := h
    have hb : (mkS l).length ≤ sizeLine := by rw [mkS_len]; exact big_ok (by omega)
    refine ⟨_, (pss_cons (ps_set (i := 1) sc_law_runs.nd rfl (.inl rfl) (pe_lst pa_nil))
      (pss_cons (ps_for PassesOwn.never rfl (pi_range1 (by rfl) T.n_range (pa_cons (pe_callB call_len_str (by rfl) T.n_len PySem.boot_len (pa_cons (pv 0) pa_nil)) pa_nil)) (pg_name (i := 2) sc_law_runs.nd rfl (.inl rfl)) (pss_one (ps_if (PW.pt (pw_and (pt_cmpR op_ne (pe_ix ix_str (pv 0) (pv 2) (fun _ _ => rfl)) pe_str (nomark _)) (pw_and1 (PW.pt (pw_or (pt_cmpR op_eq (pv 2) pe_int (nomark _)) (pw_or1 (pt_cmpR op_eq (pe_ix ix_str (pv 0) (pe_op op_sub (pv 2) pe_int) (fun _ _ => rfl)) pe_str (nomark _)))))))) (pss_one (ps_expr (pe_bm PySem.F.plainAttrs_list PySem.F.slot_list_append PySem.F.type_list_append mt_append (pv 1) (pa_cons (pe_tup (pa_cons (pv 2) (pa_cons (pe_ix ix_list (pe_split (pe_slice sl_str (pv 0) (po_some (pv 2)) po_none) pe_str) pe_int (fun _ _ => rfl)) pa_nil))) pa_nil)))) pss_nil)))
      (pss_one (ps_ret (pv 1))))), ?_⟩
    refine ⟨by show 0 ≤ sizeLine; decide, fun D nD => ?_⟩
    have k1 := same_upd (o := .lst []) (Same.refl H) nD
    have eD : upd H D (.lst []) D = some (.lst []) := upd_same
    generalize upd H D (.lst []) = H1 at k1 eD
    refine ⟨_, rfl, mkS l, rfl, hb, (l.length : Int), by rw [mkS_len], by omega, by omega, ?_⟩
    rw [Int.toNat_natCast]
    refine for_it walk_range (fun n σ' H' => ∃ (x2 : Option V) (us : List V), σ' = [some (sV l), some (.ref D), x2] ∧ Same H H' ∧ H' D = some (.lst us) ∧ us.length ≤ n ∧ LV (RunV H') us (runsL l n)) ⟨none, [], rfl, k1, eD, Nat.le_refl _, LV.nil⟩ (fun _ _ _ _ _ => trivial) ?_ ?_
    · rintro n x σ' H0 H2 hn ⟨x2, us, rfl, k2, eD2, lu, lv⟩ ⟨rfl, hx⟩
      have hx : x = nV n := by rw [hx]; exact int0 n
      subst hx
      have g : l[n]? = some (l.getD n 0) := by rw [List.getD_eq_getElem?_getD, List.getElem?_eq_getElem hn]; rfl
      have er : runsL l (n + 1) = runsL l n ++ if stR l n = true then [(n, rnP l n)] else [] := by
        unfold runsL
        rw [List.range_succ, List.filterMap_append]
        congr 1
        by_cases c : stR l n = true
        · simp [c]
        · simp [c]
      refine ifs_of (p := l.getD n 0 ≠ 32 ∧ (n = 0 ∨ l.getD (n - 1) 0 = 32)) (and_one (fun R h => ⟨_, rfl, _, rfl, mkS l, _, _, rfl, rfl, hb, atI_nat g, rfl, _, congrArg V.bl (ne_sp _), h⟩) (or_one (fun R h => ⟨_, rfl, rfl, _, congrArg V.bl (nV_zero n), h⟩) (fun hn0 R h => ⟨_, rfl, _, rfl, _, _, rfl, rfl, mkS l, _, _, rfl, rfl, hb, at_pred hn hn0, rfl, _, congrArg V.bl (eq_sp _), h⟩))) (fun c => ?_) (fun c => ?_)
      · have cs : stR l n = true := stR_iff.mpr c
        rw [if_pos cs] at er
        obtain ⟨ps, hps⟩ := rn_split hn c.1
        refine ⟨.ref D, rfl, .inl ⟨rfl, _, .inl (.inl eD2)⟩, ?_⟩
        refine ⟨_, rfl, _, rfl, ?_⟩
        refine ⟨_, rfl, (n : Int), rfl, mkS l, rfl, hb, ?_⟩
        rw [cutTo hn]
        refine ⟨⟨_, rfl⟩, mkS (l.drop n), " ", rfl, rfl, by decide, by rw [mkS_len, List.length_drop]; exact big_ok (by omega), fun p np => ?_⟩
        rw [blk_mk, hps]
        have k3 := same_upd (o := .lst ((mkS (rnP l n) :: ps).map V.str)) (Same.refl H2) np
        have ep : upd H2 p (.lst ((mkS (rnP l n) :: ps).map V.str)) p = some (.lst ((mkS (rnP l n) :: ps).map V.str)) := upd_same
        generalize upd H2 p (.lst ((mkS (rnP l n) :: ps).map V.str)) = H3 at k3 ep
        refine ⟨p, _, 0, _, rfl, rfl, SqL.of ep, atI_nat (j := 0) rfl, by show 2 ≤ sizeLine; decide, fun b nb => ?_⟩
        have k4 := same_upd (o := .tup [nV n, V.str (mkS (rnP l n))]) (Same.refl H3) nb
        have eb : upd H3 b (.tup [nV n, V.str (mkS (rnP l n))]) b = some (.tup [nV n, sV (rnP l n)]) := upd_same
        generalize upd H3 b (.tup [nV n, V.str (mkS (rnP l n))]) = H4 at k4 eb
        have eD4 := k4 _ _ (k3 _ _ eD2)
        have kt := kt_mut (zs := us ++ [V.ref b]) eD4
        refine ⟨D, us, _, rfl, rfl, eD4, lt_s (by omega), some (nV n), us ++ [.ref b], rfl, same_mut ((k2.trans k3).trans k4) nD, upd_same, by rw [List.length_append]; exact Nat.succ_le_succ lu, ?_⟩
        rw [er]
        exact LV.snoc (lv.mono fun _ _ z => z.kt fun a xs e => kt _ _ (k4 _ _ (k3 _ _ e))) ⟨b, rfl, kt _ _ eb⟩
      · have cs : ¬ stR l n = true := fun z => c (stR_iff.mp z)
        rw [if_neg cs, List.append_nil] at er
        refine ⟨some (nV n), us, rfl, k2, eD2, Nat.le_succ_of_le lu, ?_⟩
        rw [er]; exact lv
    · rintro σ' H2 ⟨x2, us, rfl, k2, eD2, lu, lv⟩
      exact ⟨_, rfl, q H2 D us k2 eD2 lv⟩
end
end Vf

set_option Elab.async false
set_option linter.all false
set_option maxRecDepth 100000
set_option maxHeartbeats 4000000
namespace Vf
open PySem PySem.Spec PyProof.Rows L2 TL LamX
/-! ### f(e, .., k = v) where f may raise, told at the caller's slots -/
section
variable {X : Cx} {CX : CXT} {k n : Nat} {f : Addr} {fd : FuncData} {ps ks : List Str} {sp : Sp} {E : L2.St → XK} {x : Str} {p pos : Pos} {e : Expr} {es : List Expr} {kws : List Keyword} {t tk : TA} {g : List Value → List Value → List Value} {gV : List V → List V → List V}
def tCallSN (n m : Nat) (sp : Sp) (gV : List V → List V → List V) (E : L2.St → XK) (t tk : TA) : TE := fun σ H Q => t σ H fun vs H1 => tk σ H1 fun zs H2 => vs.length = n ∧ zs.length = m ∧ sp (gV vs zs) H2 Q (E σ)
theorem run_fnSN {pins : List (Addr × Obj)} {σ : L2.St} {H : Hp} {s : Shared} {Q : VK} {us ws : List Value} {vs zs : List V} (F : FnOk X.prog X.w X.K X.mg X.base CX k f fd ps sp) (hr : Room k X.A) (hb : KBn X.K fd ps n ks g gV) (hx : PassesAt CX X σ (E σ))
    (I : Inv X pins σ H s) (r : Vals vs us) (rz : Vals zs ws) (l1 : vs.length = n) (l2 : zs.length = ks.length) (h : sp (gV vs zs) H Q (E σ)) : wpAny (model X.prog X.w) X.A (call (.ref f) us (ks.zip ws)) (EP X pins σ Q) X.xe s := by
  have r2 := hb.rel r rz
  refine wpAny_call (codeAny_mono (F.run X.A X.stack s H ⟨us, ks.zip ws⟩ (g us ws) (gV vs zs) Q (E σ) hr I.env0 (hb.to s us ws I.kIn (r.length.symm.trans l1) (rz.length.symm.trans l2)) r2 h) fun r s' hq => ?_)
  cases r with
  | error e => exact hx pins H s e s' I hq
  | ok fl =>
    cases fl with
    | ret u => exact I.after hq
    | next => exact False.elim hq
    | brk => exact False.elim hq
    | cont => exact False.elim hq
theorem pe_callSN (F : FnOk X.prog X.w X.K X.mg X.base CX k f fd ps sp) (hr : Room k X.A) (hg : Gl X x) (hm : X.mg x = some (.ref f)) (hk : PySem.W.keepIn X.K (.ref f) = true) (hb : KBn X.K fd ps n ks g gV) (hx : ∀ σ, PassesAt CX X σ (E σ))
    (ha : PA X (e :: es) t) (hkw : PK X kws tk) (hall : (backToKw pos (keywordEach kws X.env)).all (·.1.isSome) = true := by rfl) (hks : (backToKw pos (keywordEach kws X.env)).filterMap (·.1) = ks := by rfl)
    (hdb : (x == ("__debug__" : Str)) = false := by decide) (he : starEach (e :: es) X.env = (false, eval e X.env) :: starEach es X.env := by rfl)
    (hpl : ((backTo pos (starEach (e :: es) X.env)).any (·.1) || (backToKw pos (keywordEach kws X.env)).any (·.1.isNone)) = false := by rfl) :
    PE X (.Call (.Name x p) (e :: es) kws pos) (tCallSN n ks.length sp gV E t tk) := by
  refine ⟨fun pins s σ H Q I h => ?_⟩
  refine wpAny_Call_Name_kw (ld_glob I hg hm ?_ hdb)
  refine PySem.W.callWith_KW (h₀ := X.base) I.ok.mod.kin hk hall (thn (ha.run pos pins s σ H _ I h) fun us s1 ⟨vs, H1, I1, r, q⟩ => ?_) hpl he
  refine thn (hkw.run pos pins s1 σ H1 _ I1 q) fun ws s2 ⟨zs, H2, I2, rz, l1, l2, q2⟩ => ⟨I2.kIn, ?_⟩
  rw [hks]
  exact run_fnSN F hr hb (hx σ) I2 r rz l1 l2 q2
end
section
variable {P : Program} {w : World} {K : PySem.W.Frag} {mg : Str → Option Value} {base : Heap}
theorem kw_set_words (T : Txt K mg) : ∃ its : List Value, KBn K T.d_set_words ["style", "measure", "words", "ragged"] 3 ["ragged"] (fun us ws => us ++ ws) (fun vs zs => vs ++ zs) :=
  T.D_set_words.F.kbindsD 3 ["ragged"] (fun {_} us _ ws => us ++ ws) (by simp) (fun r _ rz => r.append rz) (fun _ _ _ _ _ _ _ us its ws h1 h2 h3 => match us, its, ws, h1, h2, h3 with | [_, _, _], [_], [_], _, _, _ => ⟨_, rfl, rfl⟩)
end
end Vf

set_option Elab.async false
set_option linter.all false
set_option maxRecDepth 100000
set_option maxHeartbeats 4000000
namespace Vf
open PySem PySem.Spec PyProof.Rows L2 TL
/-! ### k25: the runs of a line are its pieces -/
theorem runs_succ (l : List Nat) (n : Nat) : runsL l (n + 1) = runsL l n ++ if stR l n = true then [(n, rnP l n)] else [] := by
  unfold runsL
  rw [List.range_succ, List.filterMap_append]
  congr 1
  by_cases c : stR l n = true
  · simp [c]
  · simp [c]
theorem runs_skip {l : List Nat} (a : Nat) : ∀ k, (∀ j, a ≤ j → j < a + k → stR l j = false) → runsL l (a + k) = runsL l a
  | 0, _ => rfl
  | k + 1, h => by
    have ih := runs_skip a k fun j h1 h2 => h j h1 (by omega)
    have e := h (a + k) (by omega) (by omega)
    rw [show a + (k + 1) = (a + k) + 1 by omega, runs_succ, ih, e, if_neg (by decide), List.append_nil]
theorem gd_r (X B : List Nat) (j : Nat) : (X ++ B).getD (X.length + j) 0 = B.getD j 0 := by
  rw [List.getD_eq_getElem?_getD, List.getD_eq_getElem?_getD, List.getElem?_append_right (by omega), Nat.add_sub_cancel_left]
theorem gd_l (X B : List Nat) {j : Nat} (h : j < X.length) : (X ++ B).getD j 0 = X.getD j 0 := by
  rw [List.getD_eq_getElem?_getD, List.getD_eq_getElem?_getD, List.getElem?_append_left h]
theorem gd_rep {n j c : Nat} (h : j < n) : (List.replicate n c).getD j 0 = c := by
  rw [List.getD_eq_getElem?_getD, List.getElem?_replicate, if_pos h]; rfl
theorem gd_no {w : List Nat} (hw : ∀ c ∈ w, c ≠ 32) {j : Nat} (h : j < w.length) : w.getD j 0 ≠ 32 := by
  rw [List.getD_eq_getElem?_getD, List.getElem?_eq_getElem h]
  exact hw _ (List.getElem_mem h)
theorem st_no {l : List Nat} {j : Nat} (h : ¬ (l.getD j 0 ≠ 32 ∧ (j = 0 ∨ l.getD (j - 1) 0 = 32))) : stR l j = false :=
  Bool.eq_false_iff.mpr fun z => h (stR_iff.mp z)
theorem runs_blank (X Y : List Nat) (g : Nat) : runsL (X ++ (List.replicate g 32 ++ Y)) (X.length + g) = runsL (X ++ (List.replicate g 32 ++ Y)) X.length := by
  refine runs_skip _ _ fun j h1 h2 => st_no fun h => ?_
  have e : (X ++ (List.replicate g 32 ++ Y)).getD j 0 = 32 := by
    rw [show j = X.length + (j - X.length) by omega, gd_r, gd_l _ _ (by rw [List.length_replicate]; omega), gd_rep (by omega)]
  exact h.1 e
theorem tw_app {Y : List Nat} (hY : Y = [] ∨ Y.getD 0 0 = 32) : ∀ (w : List Nat), (∀ c ∈ w, c ≠ 32) → ((w ++ Y).takeWhile fun c => decide (c ≠ 32)) = w
  | [], _ => by
    cases Y with
    | nil => rfl
    | cons a r =>
      have e : a = 32 := hY.resolve_left (by simp)
      rw [List.nil_append, List.takeWhile_cons, e]; rfl
  | a :: w, h => by
    rw [List.cons_append, List.takeWhile_cons, if_pos (decide_eq_true (h a List.mem_cons_self)), tw_app hY w fun c hc => h c (List.mem_cons_of_mem _ hc)]
theorem runs_word (X w Y : List Nat) (hw : ∀ c ∈ w, c ≠ 32) (h0 : w ≠ []) (hX : X.length = 0 ∨ X.getD (X.length - 1) 0 = 32) (hY : Y = [] ∨ Y.getD 0 0 = 32) : runsL (X ++ (w ++ Y)) (X.length + w.length) = runsL (X ++ (w ++ Y)) X.length ++ [(X.length, w)] := by
  have hl : 0 < w.length := List.length_pos_iff.mpr h0
  obtain ⟨n, hn⟩ : ∃ n, w.length = n + 1 := ⟨w.length - 1, by omega⟩
  have at1 : ∀ j, j < w.length → (X ++ (w ++ Y)).getD (X.length + j) 0 ≠ 32 := fun j hj => by
    rw [gd_r, gd_l _ _ hj]; exact gd_no hw hj
  have s1 := runs_skip (l := X ++ (w ++ Y)) (X.length + 1) n fun j h1 h2 => st_no fun h => by
    have e := at1 (j - 1 - X.length) (by omega)
    rw [show X.length + (j - 1 - X.length) = j - 1 by omega] at e
    exact h.2.elim (fun z => by omega) e
  have s2 : stR (X ++ (w ++ Y)) X.length = true := stR_iff.mpr ⟨at1 0 hl, by
    rcases hX with h | h
    · exact .inl h
    · by_cases c : X.length = 0
      · exact .inl c
      · refine .inr ?_
        rw [gd_l _ _ (by omega)]; exact h⟩
  have r : rnP (X ++ (w ++ Y)) X.length = w := by
    unfold rnP
    rw [List.drop_left, tw_app hY w hw]
  rw [hn, show X.length + (n + 1) = (X.length + 1) + n by omega, s1, runs_succ, if_pos s2, r]
theorem row_runs (p : Nat → Stp) (g : Nat → Nat) : ∀ t, (∀ u, u ≤ t → (∀ c ∈ (p u).1, c ≠ 32) ∧ (p u).1 ≠ []) → (∀ u, u < t → 1 ≤ g (u + 1)) → ∀ Y : List Nat, (Y = [] ∨ Y.getD 0 0 = 32) →
    runsL ((rowS p g t).flatMap (·.1) ++ Y) ((rowS p g t).flatMap (·.1)).length = (List.range (t + 1)).map fun u => (swT p u + gsT g u, (p u).1)
  | 0, hp, _, Y, hY => by
    have h := runs_word [] (p 0).1 Y (hp 0 (Nat.le_refl _)).1 (hp 0 (Nat.le_refl _)).2 (.inl rfl) hY
    have e : (rowS p g 0).flatMap (·.1) = (p 0).1 := by show (p 0).1 ++ [] = _; rw [List.append_nil]
    rw [List.nil_append, List.length_nil, Nat.zero_add] at h
    rw [e]
    exact h
  | t + 1, hp, hg, Y, hY => by
    have hg1 := hg t (Nat.lt_succ_self t)
    have ih := row_runs p g t (fun u h => hp u (by omega)) (fun u h => hg u (by omega)) (List.replicate (g (t + 1)) 32 ++ ((p (t + 1)).1 ++ Y)) (.inr (by rw [gd_l _ _ (by rw [List.length_replicate]; omega), gd_rep (by omega)]))
    have hl := row_sg p g t
    have e : (rowS p g (t + 1)).flatMap (·.1) = (rowS p g t).flatMap (·.1) ++ (List.replicate (g (t + 1)) 32 ++ (p (t + 1)).1) := by
      show ((rowS p g t ++ [blankS (g (t + 1)), p (t + 1)]).flatMap (·.1)) = _
      rw [List.flatMap_append, List.flatMap_cons, List.flatMap_cons, List.flatMap_nil, List.append_nil]; rfl
    rw [e]
    generalize (rowS p g t).flatMap (fun s : Stp => s.1) = X at ih hl ⊢
    have b := runs_blank X ((p (t + 1)).1 ++ Y) (g (t + 1))
    have len1 : (X ++ List.replicate (g (t + 1)) 32).length = X.length + g (t + 1) := by rw [List.length_append, List.length_replicate]
    have wd := runs_word (X ++ List.replicate (g (t + 1)) 32) (p (t + 1)).1 Y (hp _ (Nat.le_refl _)).1 (hp _ (Nat.le_refl _)).2 (.inr (by rw [len1, show X.length + g (t + 1) - 1 = X.length + (g (t + 1) - 1) by omega, gd_r, gd_rep (by omega)])) hY
    rw [List.append_assoc X, len1] at wd
    have len2 : (X ++ (List.replicate (g (t + 1)) 32 ++ (p (t + 1)).1)).length = X.length + g (t + 1) + (p (t + 1)).1.length := by rw [List.length_append, List.length_append, List.length_replicate]; omega
    rw [len2, List.append_assoc X, List.append_assoc (List.replicate _ 32), wd, b, ih, List.range_succ (n := t + 1), List.map_append]
    show _ ++ [(X.length + g (t + 1), (p (t + 1)).1)] = _ ++ [(swT p (t + 1) + (gsT g t + g (t + 1)), (p (t + 1)).1)]
    rw [hl, Nat.add_assoc]
theorem gap_pos (r n u : Nat) : 1 ≤ gapF r n (u + 1) := by
  unfold gapF
  rw [Nat.add_sub_cancel]
  have h := gap_le r n u
  generalize u * r / n = a at h ⊢
  generalize (u + 1) * r / n = b at h ⊢
  omega
theorem ln_runs {p : Nat → Stp} {n M r : Nat} (hp : ∀ u, u ≤ n → (∀ c ∈ (p u).1, c ≠ 32) ∧ (p u).1 ≠ []) : runsL (lnC p n M r).1 (lnC p n M r).1.length = (List.range (n + 1)).map fun u => (swT p u + gsT (gapF r n) u, (p u).1) := by
  show runsL ((rowS p (gapF r n) n).flatMap (fun s : Stp => s.1) ++ List.replicate (M - (jnS (rowS p (gapF r n) n)).1.length) 32) (((rowS p (gapF r n) n).flatMap (fun s : Stp => s.1)) ++ List.replicate (M - (jnS (rowS p (gapF r n) n)).1.length) 32).length = _
  generalize M - (jnS (rowS p (gapF r n) n)).1.length = k
  have h := row_runs p (gapF r n) n hp (fun u _ => gap_pos r n u) (List.replicate k 32) (by
    cases k with
    | zero => exact .inl rfl
    | succ k => exact .inr rfl)
  have b := runs_blank ((rowS p (gapF r n) n).flatMap (·.1)) [] k
  rw [List.append_nil] at b
  rw [List.length_append, List.length_replicate, b, h]
/-! the pieces' signs -/
theorem piece_no {S : Sty} {z : List Nat} (hz : ∀ c ∈ z, c ≠ 32) (i j : Nat) (hj : j ≤ z.length) : ∀ c ∈ pieceN S z i j, c ≠ 32 := by
  intro c hc
  unfold pieceN at hc
  rcases List.mem_append.mp hc with h | h
  · obtain ⟨k, hk, h⟩ := List.mem_flatMap.mp h
    rw [List.mem_range'_1] at hk
    rcases List.mem_cons.mp h with h | h
    · rw [h]; exact gd_no hz (by omega)
    · rw [List.eq_of_mem_replicate h]; decide
  · split at h
    · rw [List.mem_singleton.mp h]; decide
    · cases h
theorem piece_ne {S : Sty} {z : List Nat} (hz : ∀ c ∈ z, own c = true) {i j : Nat} (h : i < j) (hj : j ≤ z.length) : pieceN S z i j ≠ [] := fun e => by
  have h1 := piece_own (S := S) hz i j hj
  rw [e] at h1
  have h1 : 0 = j - i := h1
  omega
theorem alp_own : ∀ c ∈ alpL, own c = true ∧ c ≠ 32 := by decide +kernel
/-! the signs and cover ahead of the k-th piece -/
def cvK (p : Nat → Stp) (g : Nat → Nat) : Nat → List Nat
  | 0 => []
  | k + 1 => (rowS p g k).flatMap (·.2.1)
def spcK (g : Nat → Nat) : Nat → Nat
  | 0 => 0
  | k + 1 => g (k + 1)
def bhK (p : Nat → Stp) (g : Nat → Nat) : Nat → Nat
  | 0 => 0
  | k + 1 => swT p (k + 1) + gsT g k
theorem cvK_step (p : Nat → Stp) (g : Nat → Nat) : ∀ k, cvK p g (k + 1) = (cvK p g k ++ List.replicate (spcK g k) 32) ++ (p k).2.1
  | 0 => by
    show (p 0).2.1 ++ [] = ([] ++ []) ++ (p 0).2.1
    rw [List.append_nil]; rfl
  | k + 1 => by
    show (rowS p g k ++ [blankS (g (k + 1)), p (k + 1)]).flatMap (·.2.1) = _
    rw [List.flatMap_append, List.flatMap_cons, List.flatMap_cons, List.flatMap_nil, List.append_nil, List.append_assoc]
    show _ ++ (List.replicate (List.replicate (g (k + 1)) 32).length 32 ++ _) = _
    rw [List.length_replicate]
    rfl
theorem bhK_x (p : Nat → Stp) (g : Nat → Nat) : ∀ k, swT p k + gsT g k = bhK p g k + spcK g k
  | 0 => rfl
  | k + 1 => by show swT p (k + 1) + (gsT g k + g (k + 1)) = swT p (k + 1) + gsT g k + g (k + 1); omega
theorem bhK_step (p : Nat → Stp) (g : Nat → Nat) (k : Nat) : bhK p g (k + 1) = swT p k + gsT g k + (p k).1.length := by
  show swT p k + (p k).1.length + gsT g k = _
  omega
theorem cvK_len {p : Nat → Stp} (hp : ∀ t, EqL (p t)) (g : Nat → Nat) : ∀ k, (cvK p g k).length = bhK p g k
  | 0 => rfl
  | k + 1 => by
    have h := (hp k).1
    have b := bhK_x p g k
    rw [bhK_step, cvK_step, List.length_append, List.length_append, List.length_replicate, cvK_len hp g k]
    omega
theorem bhK_mono (p : Nat → Stp) (g : Nat → Nat) (k : Nat) : ∀ d, bhK p g k ≤ bhK p g (k + d)
  | 0 => Nat.le_refl _
  | d + 1 => by
    have ih := bhK_mono p g k d
    have b := bhK_x p g (k + d)
    show _ ≤ bhK p g (k + d + 1)
    rw [bhK_step]
    omega
/-! where the reading stands: the word and the place in it -/
def psN (S : Sty) (Z : List (List Nat)) (x y : Nat × Nat) (n : Nat) : Nat × Nat := if n < pcsN x y then (x.1 + n, eA S (wz Z (x.1 + n)) (kkA x.2 n)) else (y.1, eA S (wz Z y.1) y.2)
theorem psN_step {S : Sty} {Z : List (List Nat)} {x y : Nat × Nat} (h : TwoP S Z x y) {n : Nat} (hn : n < pcsN x y) : (mkM y (x.1 + n) = 0 → psN S Z x y (n + 1) = (x.1 + n + 1, 0)) ∧ (mkM y (x.1 + n) ≠ 0 → psN S Z x y (n + 1) = (x.1 + n, eA S (wz Z (x.1 + n)) (mkM y (x.1 + n)))) := by
  have hp := two_pos h
  have h3 := h.2.2
  have hxy : x.1 ≤ y.1 := by rcases h3 with h | h <;> omega
  have hN : pcsN x y = (y.1 - x.1) + if 0 < y.2 then 1 else 0 := rfl
  unfold psN
  constructor
  · intro hm
    by_cases c : n + 1 < pcsN x y
    · rw [if_pos c]
      have e : kkA x.2 (n + 1) = 0 := if_neg (by omega)
      rw [e, eA_zero]; rfl
    · rw [if_neg c]
      have hy : y.2 = 0 := by
        rcases Nat.eq_zero_or_pos y.2 with h | h
        · exact h
        · rw [if_pos h] at hN
          unfold mkM at hm
          rw [if_pos (by omega)] at hm
          exact hm
      rw [hy] at hN ⊢
      rw [if_neg (by omega)] at hN
      rw [eA_zero]
      exact Prod.ext (by show y.1 = x.1 + n + 1; omega) rfl
  · intro hm
    unfold mkM at hm ⊢
    by_cases c : x.1 + n = y.1
    · rw [if_pos c] at hm ⊢
      rw [if_pos (by omega)] at hN
      rw [if_neg (by omega), c]
    · rw [if_neg c] at hm
      exact absurd rfl hm
end Vf

set_option Elab.async false
set_option linter.all false
set_option maxRecDepth 100000
set_option maxHeartbeats 4000000
namespace Vf
open PySem PySem.Spec PyProof.Rows L2 TL LamX
theorem takesN0 {X : Cx} : L2N.Takes X (fun _ _ _ _ => False) := fun _ _ x => by
  obtain ⟨_, _, _, _, _, _, _, _, _, _, _, _, _, _, _, _, z⟩ := x
  exact z.elim
def tXpA (K : PySem.W.Frag) (cls : Value) (dd : Option Addr) (a : Addr) (n : Str) (te : TE) (σ : L2.St) (H : Hp) (Q : VK) : Prop :=
  te σ H fun x H1 => ∃ (D d : Addr) (fs : List (Str × V)) (v : V), cls = .ref D ∧ dd = some d ∧ XfC K D ∧ PySem.W.findIn K (.ref D) n = some none ∧ x = .ref a ∧ H1 d = some (.xd fs) ∧ fs.lookup n = some v ∧ Q v H1
section
variable {X : Cx} {a : Addr} {oe : Obj} {cls : Value} {dd : Option Addr} {pn : List (Addr × Obj)}
theorem pe_xpAny {e : Expr} {te : TE} {pos : Pos} {n : Str} (hz : L2N.Zn cls dd oe) (hf : ∃ vs, oe.data = .fields vs) (he : PE (X.suite a ((a, oe) :: pn)) e te)
    (hb : attributeBase e n (X.suite a ((a, oe) :: pn)).env (eval e (X.suite a ((a, oe) :: pn)).env) = eval e (X.suite a ((a, oe) :: pn)).env := by rfl) : PE (X.suite a ((a, oe) :: pn)) (.Attribute e n pos) (tXpA X.K cls dd a n te) := by
  constructor
  intro pins s σ H Q I h
  refine attr_of hb (thn (he.run pins s σ H _ I h) fun u s1 hh => ?_)
  obtain ⟨x, H1, I1, rx, D, d, fs, v, e1, e2, C, hno, ex, hd, l, q⟩ := hh
  subst ex e1 e2
  have eu : u = Value.ref a := rx
  subst eu
  have c : ExcAt X.K D d (a, oe) := ⟨hz.zc, hf⟩
  obtain ⟨od, mA, J, hl, hr⟩ := ExcAt.inst (X := X.suite a ((a, oe) :: pn)) c I1 List.mem_cons_self hd
  obtain ⟨y, hy, ry⟩ := RelO.some_of (v := v) (o := mA n) (by rw [← l]; exact hr n)
  exact HandSPX.exc_get I1.kIn J C.ga C.gg C.exC (PySem.W.findObj_own C.hdC hno rfl (by rw [hl, hy])) (handed_of ry) ⟨v, H1, I1.tok _, ry, q⟩
end
section
variable {P : Program} {w : World} {K : PySem.W.Frag} {mg : Str → Option Value} {base : Heap}
/-- what is told: the strips, or that a word is too wide -/
def AskW (S : Sty) (Y : List (List Nat × Nat)) (M : Nat) (rag : Bool) (H : Hp) (x : V) (f g : Nat → Option Nat) : Prop := match f ((posL S (wdsY Y)).length - 1) with
  | none => x = .str "wide"
  | some _ => CutV H x (strF S Y M rag (Rw g ((posL S (wdsY Y)).length - 1)).reverse)
theorem AskW.kt {S : Sty} {Y : List (List Nat × Nat)} {M : Nat} {rag : Bool} {H H' : Hp} {x : V} {f g : Nat → Option Nat} (h : AskW S Y M rag H x f g) (k : ∀ a xs, H a = some (.tup xs) → H' a = some (.tup xs)) : AskW S Y M rag H' x f g := by
  unfold AskW at h ⊢
  cases e : f ((posL S (wdsY Y)).length - 1) with
  | none => rw [e] at h; exact h
  | some y => rw [e] at h; exact h.kt k
def spAsked (Pt : Addr) : Sp := fun vs H Q _ => ∃ (v : V) (wa : Addr) (ws : List V) (S : Sty) (Y : List (List Nat × Nat)) (M L : Nat) (rag : Bool) (f g : Nat → Option Nat), vs = [v, nV M, .ref wa, .bl rag] ∧ StyL H v S L ∧ H wa = some (.tup ws) ∧ LV (WkV H) ws Y ∧ WdsOk S (wdsY Y) ∧ (∀ z ∈ wdsY Y, WdOk z) ∧ (posL S (wdsY Y)).length ≤ 91 ∧ M ≤ 20000 ∧ Tabs [(Pt, lamQ)] H ∧ Bd (· ∈ netQ M L S (wdsY Y)) f g ∧
  ∀ H' x, ExtN H H' → Tabs [(Pt, lamQ)] H' → AskW S Y M rag H' x f g → Q x H'
theorem ask_key {H : Hp} {Pt tw wa : Addr} {v : V} {ws : List V} {S : Sty} {Y : List (List Nat × Nat)} {M L : Nat} {rag : Bool} {f g : Nat → Option Nat} {Q : VK} {E : XK} (sl : StyL H v S L) (ew : H wa = some (.tup ws)) (lw : LV (WkV H) ws Y) (ok : WdsOk S (wdsY Y)) (wd : ∀ z ∈ wdsY Y, WdOk z) (l91 : (posL S (wdsY Y)).length ≤ 91) (hM : M ≤ 20000) (hT : Tabs [(Pt, lamQ)] H) (bd : Bd (· ∈ netQ M L S (wdsY Y)) f g)
    (q : ∀ H1 z, ExtN H H1 → Tabs [(Pt, lamQ)] H1 → AskW S Y M rag H1 z f g → Q z H1)
    (hE : f ((posL S (wdsY Y)).length - 1) = none → ∀ H' d, ExtN H H' → Tabs [(Pt, lamQ)] H' → H' d = some (.xd [("part", .str "word")]) → E (.ref tw) (some d) H') :
    spSetW Pt tw [v, nV M, .ref wa, .bl rag] H Q E := by
  refine ⟨v, wa, ws, S, Y, M, L, _, f, g, rfl, sl, ew, lw, ok, wd, l91, hM, hT, bd, fun y hf H1 z x1 T1 hz => q H1 z x1 T1 ?_, hE⟩
  unfold AskW
  rw [hf]
  exact hz
theorem ok_asked (T : Txt K mg) {c Pt : Addr} (hcode : T.d_least_lines.code = .ref c) (TB : TabB base mg c Pt) : FnOk P w K mg base CX0 10 T.a_law_asked T.d_law_asked ["_law_style", "_law_measure_here", "_law_words", "_law_close"] (spAsked Pt) := by
  have G_set_words : FnOk P w K mg base (L2N.CX P w) 9 T.a_set_words T.d_set_words ["style", "measure", "words", "ragged"] (spSetW Pt T.c_TooWide) := ok_set_words T hcode TB
  obtain ⟨ds_, V1_set_words, B1_set_words⟩ := T.D_set_words.B1
  obtain ⟨_, KB⟩ := kw_set_words T
  refine T.D_law_asked.F.ok sc_law_asked (fun vs H Q E h => ?_) (fun cdv A outer s H vs Q E hr h => ?_)
  · obtain ⟨_, _, _, _, _, _, _, _, _, _, rfl, _⟩ := h
    rfl
  · obtain ⟨v, wa, ws, S, Y, M, L, rag, f, g, rfl, sl, ew, lw, ok, wd, l91, hM, hT, bd, q⟩ := h
    have hr9 : Room 9 _ := hr.mono (by decide)
    refine ⟨_, pss_one (L2N.ps_try_as (i := 4) (tb := fun W => tSeq (tIfS (tB (tVar 3)) (tRet (tCallSN 3 (["ragged"] : List Str).length (spSetW Pt T.c_TooWide) (fun vs zs => vs ++ zs) (WE W) (tCons (tVar 0) (tCons (tVar 1) (tCons (tVar 2) tNil))) (tCons (tC (.bl true)) tNil))) tNext) (tRet (tCallSD (spSetW Pt T.c_TooWide) [V.bl false] (WE W) (tCons (tVar 0) (tCons (tVar 1) (tCons (tVar 2) tNil))))))
          (ts := fun a cls d => tRet (tIf (tTest (tOp rEq (tXpA K cls d a "part" (tVar 4)) (tC (.str "word")))) (tC (.str "wide")) (tC (.str "other"))))
          (Wout := fun _ _ _ _ => False) rfl rfl sc_law_asked.nd rfl rfl ⟨rfl, by decide, Or.inl T.C_TooWide.G⟩ takesN0
          (fun W pn xe tk _ => pss_cons (ps_if (pt_val (pv 3)) (pss_one (ps_ret (by exact (pe_callSN G_set_words hr9 rfl T.D_set_words.G T.D_set_words.F.kp KB (fun σ => L2N.passAt tk σ) (by exact (pa_cons (pv 0) (pa_cons (pv 1) (pa_cons (pv 2) pa_nil)))) (by exact (pk_cons pe_bl pk_nil)))))) pss_nil)
            (pss_one (ps_ret (by exact (pe_callSD G_set_words hr9 rfl T.D_set_words.G T.D_set_words.F.kp B1_set_words V1_set_words (fun σ => L2N.passAt tk σ) (by exact (pa_cons (pv 0) (pa_cons (pv 1) (pa_cons (pv 2) pa_nil)))))))))
          (fun a oe cls d pn hz hf => pss_one (ps_ret (pe_ifExp (pt_cmpR op_eq (by exact (pe_xpAny hz hf (pv 4) rfl)) pe_str (nomark _)) pe_str pe_str)))), ?_⟩
    have hE : ∀ (W : WX) (Qr : VK), True := fun _ _ => trivial
    have fin : ∀ (f0 : f ((posL S (wdsY Y)).length - 1) = none) (H' : Hp), ExtN H H' → Tabs [(Pt, lamQ)] H' → Q (.str "wide") H' := fun f0 H' x1 T1 => q H' _ x1 T1 (by unfold AskW; rw [f0])
    refine ⟨_, rfl, rag, rfl, ?_⟩
    cases rag
    · refine ⟨_, rfl, _, rfl, _, rfl, ?_⟩
      refine ask_key sl ew lw ok wd l91 hM hT bd q (fun hf H1 d x1 T1 hd => ?_)
      refine ⟨true, T.y_TooWide, fun _ a ha => ?_, fun z => nomatch z⟩
      refine ⟨_, rfl, _, d, _, _, rfl, rfl, T.E_TooWide.XC, T.E_TooWide.no "part" (by simp), rfl, hd, rfl, ?_⟩
      exact ⟨rfl, true, rfl, fin hf _ x1 T1⟩
    · refine ⟨_, rfl, _, rfl, _, rfl, rfl, rfl, ?_⟩
      refine ask_key sl ew lw ok wd l91 hM hT bd q (fun hf H1 d x1 T1 hd => ?_)
      refine ⟨true, T.y_TooWide, fun _ a ha => ?_, fun z => nomatch z⟩
      refine ⟨_, rfl, _, d, _, _, rfl, rfl, T.E_TooWide.XC, T.E_TooWide.no "part" (by simp), rfl, hd, rfl, ?_⟩
      exact ⟨rfl, true, rfl, fin hf _ x1 T1⟩
end
end Vf

set_option Elab.async false
set_option linter.all false
set_option maxRecDepth 100000
set_option maxHeartbeats 4000000
namespace Vf
open PySem PySem.Spec PyProof.Rows L2 TL LamX
theorem ifs_mid {c : TT} {s t : TS} {D : Ends} {σ : L2.St} {H : Hp} {p : Prop} [Decidable p] (Mid : L2.St → Hp → Prop) (hc : ∀ R : Bool → Hp → Prop, R (decide p) H → c σ H R) (h1 : p → (∀ σ' H', Mid σ' H' → D.nx σ' H') → s D σ H) (h2 : ¬ p → (∀ σ' H', Mid σ' H' → D.nx σ' H') → t D σ H) (h : ∀ σ' H', Mid σ' H' → D.nx σ' H') : tIfS c s t D σ H :=
  ifs_of hc (fun z => h1 z h) (fun z => h2 z h)
/-- a line and how it is read -/
structure LnOk (S : Sty) (Y : List (List Nat × Nat)) (M r : Nat) (x y : Nat × Nat) : Prop where
  two : TwoP S (wdsY Y) x y
  fit : swT (pcA S Y x y) (pcsN x y) + (pcsN x y - 1) + (pcsN x y - 1) * r / (pcsN x y - 1) ≤ M
  hM : M ≤ 20000
structure RdOk (S : Sty) (Y : List (List Nat × Nat)) : Prop where
  st : StyOk S
  q1 : ∀ y ∈ Y, y.2 ≤ 1
  wd : ∀ z ∈ wdsY Y, WdOk z
  ne : ∀ z ∈ wdsY Y, 0 < z.length
  ow : ∀ z ∈ wdsY Y, ∀ c ∈ z, own c = true ∧ c ≠ 32
  ln : Y.length ≤ 40
theorem sk_le' {Y : List (List Nat × Nat)} (h : ∀ y ∈ Y, y.2 ≤ 1) (i : Nat) : skN Y i ≤ 1 := by
  unfold skN
  by_cases c : i < Y.length
  · have e : Y[i]? = some Y[i] := List.getElem?_eq_getElem c
    rw [List.getD_eq_getElem?_getD, e]
    exact h _ (List.getElem_mem c)
  · rw [List.getD_eq_getElem?_getD, List.getElem?_eq_none (by omega)]
    exact Nat.zero_le _
/-- all that the reading of the n-th piece asks -/
theorem pc_facts {S : Sty} {Y : List (List Nat × Nat)} {x y : Nat × Nat} (rd : RdOk S Y) (h : TwoP S (wdsY Y) x y) {n : Nat} (hn : n < pcsN x y) :
    ∃ b, (pcA S Y x y n).1 = pieceN S (wz (wdsY Y) (x.1 + n)) (psN S (wdsY Y) x y n).2 b ∧ (psN S (wdsY Y) x y n).1 = x.1 + n ∧ x.1 + n < Y.length ∧ (psN S (wdsY Y) x y n).2 < b ∧ b ≤ (wz (wdsY Y) (x.1 + n)).length ∧ (b = (wz (wdsY Y) (x.1 + n)).length ∨ ∃ (t : Nat) (r : Nat × Nat), (places S (wz (wdsY Y) (x.1 + n)))[t]? = some r ∧ r.1 = b) ∧
      (b = (wz (wdsY Y) (x.1 + n)).length → psN S (wdsY Y) x y (n + 1) = (x.1 + n + 1, 0)) ∧ (b ≠ (wz (wdsY Y) (x.1 + n)).length → psN S (wdsY Y) x y (n + 1) = (x.1 + n, b)) ∧ (0 < n → (psN S (wdsY Y) x y n).2 = 0) := by
  obtain ⟨h1, h2, h3, h4⟩ := two_t h hn
  have hs := psN_step h hn
  have l1 := h1
  rw [wdsY_len] at l1
  have hne := rd.ne _ (wz_mem h1)
  have ep : psN S (wdsY Y) x y n = (x.1 + n, eA S (wz (wdsY Y) (x.1 + n)) (kkA x.2 n)) := if_pos hn
  have e0 : (pcA S Y x y n).1 = pcN S (wz (wdsY Y) (x.1 + n)) (kkA x.2 n) (mkM y (x.1 + n)) := piece_sg _ _ _ _ _
  generalize wz (wdsY Y) (x.1 + n) = z at *
  generalize hm : mkM y (x.1 + n) = m at *
  have ne0 : 0 < n → kkA x.2 n = 0 := fun c => if_neg (by omega)
  generalize kkA x.2 n = k at *
  refine ⟨eA S z (if m = 0 then nP S z + 1 else m), ?_, ?_, l1, ?_, eA_le, ?_, fun e => hs.1 ?_, fun e => ?_, fun c => ?_⟩
  · rw [e0, ep]; rfl
  · rw [ep]
  · rw [ep]
    show eA S z k < _
    split
    · exact eA_lt hne (by omega) (Nat.le_refl _)
    · exact eA_lt hne (by omega) (by omega)
  · by_cases c : m = 0
    · rw [if_pos c]; exact .inl (eA_end S z)
    · rw [if_neg c]
      obtain ⟨r, g1, g2⟩ := eA_mid (by omega) h3
      exact .inr ⟨_, r, g1, g2⟩
  · by_cases c : m = 0
    · exact c
    · rw [if_neg c] at e
      have := eA_lt (S := S) hne (show m < nP S z + 1 by omega) (Nat.le_refl _)
      rw [eA_end] at this
      omega
  · have c : m ≠ 0 := fun c => by rw [if_pos c] at e; exact e (eA_end S z)
    rw [if_neg c]
    exact hs.2 c
  · rw [ep, ne0 c]; exact eA_zero S z
section
variable {P : Program} {w : World} {K : PySem.W.Frag} {mg : Str → Option Value} {base : Heap}
/-- the line read: where it ends, its gaps, what it takes up -/
def RdV (S : Sty) (Y : List (List Nat × Nat)) (r : Nat) (x y : Nat × Nat) (H : Hp) (R : Addr) : Prop := ∃ t G, H R = some (.tup [.ref t, .ref G, nV (swT (pcA S Y x y) (pcsN x y) + (pcsN x y - 1) + (pcsN x y - 1) * r / (pcsN x y - 1))]) ∧ H t = some (.tup [nV y.1, nV (eA S (wz (wdsY Y) y.1) y.2)]) ∧ H G = some (.lst ((gI r (pcsN x y - 1) (pcsN x y - 1)).map V.int))
def spLR : Sp := fun vs H Q _ => ∃ (v : V) (wa ta sa : Addr) (ws : List V) (S : Sty) (Y : List (List Nat × Nat)) (M r : Nat) (x y : Nat × Nat), vs = [v, .ref wa, .ref ta, .ref sa] ∧ StyV H v S ∧ H wa = some (.tup ws) ∧ LV (WkV H) ws Y ∧ RdOk S Y ∧ H ta = some (.tup [nV x.1, nV (eA S (wz (wdsY Y) x.1) x.2)]) ∧ H sa = some (.tup [sV (lnC (pcA S Y x y) (pcsN x y - 1) M r).1, sV (lnC (pcA S Y x y) (pcsN x y - 1) M r).2]) ∧ LnOk S Y M r x y ∧
  ∀ H' R, Same H H' → RdV S Y r x y H' R → Q (.ref R) H'
theorem ok_lr (T : Txt K mg) : FnOk P w K mg base CX0 3 T.a_law_line_read T.d_law_line_read ["_law_style", "_law_words", "_law_start", "_law_strip"] spLR := by
  have G_law_runs : FnOk P w K mg base CX0 1 T.a_law_runs T.d_law_runs ["_law_signs"] spRuns := ok_runs T
  have G_law_piece_end : FnOk P w K mg base CX0 2 T.a_law_piece_end T.d_law_piece_end ["_law_style", "_law_word", "_law_place", "_law_part"] spPE := ok_pend T
  refine T.D_law_line_read.F.ok sc_law_line_read (fun vs H Q E h => ?_) (fun cdv A outer s H vs Q E hr h => ?_)
  · obtain ⟨_, _, _, _, _, _, _, _, _, _, _, rfl, _⟩ := h
    rfl
  · obtain ⟨v, wa, ta, sa, ws, S, Y, M, r, x, y, rfl, sv, ew, lw, rd, et, es, lo, q⟩ := h
    have lws := lw.1
    have two := lo.two
    have tp := two_pos two
    rw [wdsY_len] at tp
    have l40 := rd.ln
    obtain ⟨N, hN⟩ : ∃ N, pcsN x y = N + 1 := ⟨pcsN x y - 1, by omega⟩
    have fit := lo.fit
    have hM := lo.hM
    have pf := fun n (hn : n < N + 1) => pc_facts rd two (n := n) (by omega)
    have hp : ∀ t, EqL (pcA S Y x y t) := fun t => piece_eq _ _ _ _ _
    have hcv : ∀ n, (pcA S Y x y n).2.1 = List.replicate (pcA S Y x y n).1.length (if skN Y (x.1 + n) = 0 then 32 else 35) := fun n => by
      unfold pcA
      rw [piece_cv, piece_sg]
    have hsk := sk_le' rd.q1
    have hps0 : psN S (wdsY Y) x y 0 = (x.1, eA S (wz (wdsY Y) x.1) x.2) := if_pos (by omega)
    have hpsN : psN S (wdsY Y) x y (N + 1) = (y.1, eA S (wz (wdsY Y) y.1) y.2) := if_neg (by omega)
    have hno : ∀ u, u ≤ N → (∀ c ∈ (pcA S Y x y u).1, c ≠ 32) ∧ (pcA S Y x y u).1 ≠ [] := fun u hu => by
      obtain ⟨b, e1, _, e3, e4, e5, _⟩ := pf u (by omega)
      have hw := rd.ow _ (wz_mem (Z := wdsY Y) (i := x.1 + u) (by rw [wdsY_len]; exact e3))
      rw [e1]
      exact ⟨piece_no (fun c hc => (hw c hc).2) _ _ e5, piece_ne (fun c hc => (hw c hc).1) e4 e5⟩
    unfold RdV at q
    rw [hN] at fit q es
    rw [Nat.add_sub_cancel] at fit q es
    have hrun := ln_runs (M := M) (r := r) hno
    have rs := row_sg (pcA S Y x y) (gapF r N) N
    have gt := gs_tel r N N
    have el : (lnC (pcA S Y x y) N M r).1.length = M := by
      show ((rowS (pcA S Y x y) (gapF r N) N).flatMap (fun s : Stp => s.1) ++ List.replicate (M - (jnS (rowS (pcA S Y x y) (gapF r N) N)).1.length) 32).length = M
      rw [List.length_append, List.length_replicate]
      show _ + (M - ((rowS (pcA S Y x y) (gapF r N) N).flatMap (fun s : Stp => s.1)).length) = M
      omega
    have ecv : (lnC (pcA S Y x y) N M r).2 = cvK (pcA S Y x y) (gapF r N) (N + 1) ++ List.replicate (M - bhK (pcA S Y x y) (gapF r N) (N + 1)) 32 := by
      show (rowS (pcA S Y x y) (gapF r N) N).flatMap (fun s : Stp => s.2.1) ++ List.replicate (M - ((rowS (pcA S Y x y) (gapF r N) N).flatMap (fun s : Stp => s.1)).length) 32 = _
      rw [rs]; rfl
    have ebh : bhK (pcA S Y x y) (gapF r N) (N + 1) = swT (pcA S Y x y) (N + 1) + N + N * r / N := by
      show swT (pcA S Y x y) (N + 1) + gsT (gapF r N) N = _
      omega
    have bhl : ∀ n, n ≤ N + 1 → bhK (pcA S Y x y) (gapF r N) n ≤ M := fun n hn => by
      have h := bhK_mono (pcA S Y x y) (gapF r N) n (N + 1 - n)
      rw [show n + (N + 1 - n) = N + 1 by omega] at h
      omega
    have cvl := cvK_len hp (gapF r N)
    generalize hl1 : (lnC (pcA S Y x y) N M r).1 = l at *
    generalize hl2 : (lnC (pcA S Y x y) N M r).2 = cv at *
    refine ⟨_, (pss_cons (ps_asg (pv 2) (pg_tup (by rfl) (pgs_cons (pg_name (i := 4) sc_law_line_read.nd rfl (.inl rfl)) (pgs_cons (pg_name (i := 5) sc_law_line_read.nd rfl (.inl rfl)) pgs_nil))))
      (pss_cons (ps_set (i := 6) sc_law_line_read.nd rfl (.inl rfl) pe_str)
      (pss_cons (ps_set (i := 7) sc_law_line_read.nd rfl (.inl rfl) (pe_lst pa_nil))
      (pss_cons (ps_set (i := 8) sc_law_line_read.nd rfl (.inl rfl) pe_int)
      (pss_cons (ps_set (i := 9) sc_law_line_read.nd rfl (.inl rfl) (pe_call G_law_runs (hr.mono (by decide)) (by rfl) T.D_law_runs.G T.D_law_runs.F.kp T.D_law_runs.B .nil pass0 (pa_cons (pe_ix ix_tup (pv 3) pe_int (fun _ _ => rfl)) pa_nil)))
      (pss_cons (ps_for PassesOwn.never rfl (pi_range1 (by rfl) T.n_range (pa_cons (pe_callB call_len_seq (by rfl) T.n_len PySem.boot_len (pa_cons (pv 9) pa_nil)) pa_nil)) (pg_name (i := 10) sc_law_line_read.nd rfl (.inl rfl)) (pss_cons (ps_asg (pe_ix ix_list (pv 9) (pv 10) (fun _ _ => rfl)) (pg_tup (by rfl) (pgs_cons (pg_name (i := 11) sc_law_line_read.nd rfl (.inl rfl)) (pgs_cons (pg_name (i := 12) sc_law_line_read.nd rfl (.inl rfl)) pgs_nil))))
      (pss_cons (ps_if (PW.pt (pw_or (pt_cmpR op_eq (pv 4) (pe_callB call_len_seq (by rfl) T.n_len PySem.boot_len (pa_cons (pv 1) pa_nil)) (nomark _)) (pw_or (PW.pt (pw_and (pt_cmpR op_gt (pv 10) pe_int (nomark _)) (pw_and1 (pt_cmpR op_gt (pv 5) pe_int (nomark _))))) (pw_or1 (PW.pt (pw_and (pt_cmpR op_eq (pv 10) pe_int (nomark _)) (pw_and1 (pt_cmpR op_gt (pv 11) pe_int (nomark _))))))))) (pss_one (ps_ret pe_non)) pss_nil)
      (pss_cons (ps_set (i := 13) sc_law_line_read.nd rfl (.inl rfl) (pe_call G_law_piece_end (hr.mono (by decide)) (by rfl) T.D_law_piece_end.G T.D_law_piece_end.F.kp T.D_law_piece_end.B .nil pass0 (pa_cons (pv 0) (pa_cons (pe_ix ix_tup (pe_ix ix_tup (pv 1) (pv 4) (fun _ _ => rfl)) pe_int (fun _ _ => rfl)) (pa_cons (pv 5) (pa_cons (pv 12) pa_nil))))))
      (pss_cons (ps_if (pt_cmpR op_isN (pv 13) pe_non (nomark _)) (pss_one (ps_ret pe_non)) pss_nil)
      (pss_cons (ps_if (pt_cmpR op_gt (pv 10) pe_int (nomark _)) (pss_one (ps_expr (pe_bm PySem.F.plainAttrs_list PySem.F.slot_list_append PySem.F.type_list_append mt_append (pv 7) (pa_cons (pe_op op_sub (pv 11) (pv 8)) pa_nil)))) pss_nil)
      (pss_cons (ps_set (i := 6) sc_law_line_read.nd rfl (.inl rfl) (pe_op op_add_str (pe_op op_add_str (pv 6) (pe_op op_mul_str pe_str (pe_op op_sub (pv 11) (pv 8)))) (pe_op op_mul_str (pe_ifExp (pt_cmpR op_eq (pe_ix ix_tup (pe_ix ix_tup (pv 1) (pv 4) (fun _ _ => rfl)) pe_int (fun _ _ => rfl)) pe_int (nomark _)) pe_str pe_str) (pe_callB call_len_str (by rfl) T.n_len PySem.boot_len (pa_cons (pv 12) pa_nil)))))
      (pss_cons (ps_set (i := 8) sc_law_line_read.nd rfl (.inl rfl) (pe_op op_add (pv 11) (pe_callB call_len_str (by rfl) T.n_len PySem.boot_len (pa_cons (pv 12) pa_nil))))
      (pss_cons (ps_set (i := 5) sc_law_line_read.nd rfl (.inl rfl) (pv 13))
      (pss_one (ps_if (pt_cmpR op_eq (pv 13) (pe_callB call_len_str (by rfl) T.n_len PySem.boot_len (pa_cons (pe_ix ix_tup (pe_ix ix_tup (pv 1) (pv 4) (fun _ _ => rfl)) pe_int (fun _ _ => rfl)) pa_nil)) (nomark _)) (pss_cons (ps_set (i := 4) sc_law_line_read.nd rfl (.inl rfl) (pe_op op_add (pv 4) pe_int))
      (pss_one (ps_set (i := 5) sc_law_line_read.nd rfl (.inl rfl) pe_int))) pss_nil)))))))))))
      (pss_cons (ps_if (PW.pt (pw_or (pt_not (pt_truth (pv 9) (by intro _; rfl))) (pw_or1 (pt_cmpR op_ne (pe_op op_add_str (pv 6) (pe_op op_mul_str pe_str (pe_op op_sub (pe_callB call_len_str (by rfl) T.n_len PySem.boot_len (pa_cons (pe_ix ix_tup (pv 3) pe_int (fun _ _ => rfl)) pa_nil)) (pv 8)))) (pe_ix ix_tup (pv 3) pe_int (fun _ _ => rfl)) (nomark _))))) (pss_one (ps_ret pe_non)) pss_nil)
      (pss_one (ps_ret (pe_tup (pa_cons (pe_tup (pa_cons (pv 4) (pa_cons (pv 5) pa_nil))) (pa_cons (pv 7) (pa_cons (pv 8) pa_nil))))))))))))), ?_⟩
    refine ⟨_, rfl, ta, _, rfl, SqT.of et, rfl, _, _, rfl, _, _, rfl, rfl, ?_⟩
    refine ⟨by show 0 ≤ sizeLine; decide, fun G nG => ?_⟩
    have k0 := same_upd (o := .lst []) (Same.refl H) nG
    have eG : upd H G (.lst []) G = some (.lst []) := upd_same
    generalize upd H G (.lst []) = H0 at k0 eG
    refine ⟨_, rfl, sa, _, 0, _, rfl, rfl, SqT.of (k0 _ _ es), rfl, l, rfl, by omega, fun H1 L us k1 eL lv => ?_⟩
    have eG1 := k1 _ _ eG
    rw [hrun] at lv
    have hLG : L ≠ G := fun e => by
      rw [e, eG1] at eL
      have h := HO.lst.inj (Option.some.inj eL)
      have h2 := lv.1
      rw [← h, List.length_map, List.length_range] at h2
      cases h2
    have lus := lv.1
    rw [List.length_map, List.length_range] at lus
    have rng : ∀ t, t < N + 1 → ((List.range (N + 1)).map fun u => (swT (pcA S Y x y) u + gsT (gapF r N) u, (pcA S Y x y u).1))[t]? = some (swT (pcA S Y x y) t + gsT (gapF r N) t, (pcA S Y x y t).1) := fun t ht => by rw [List.getElem?_map, List.getElem?_range ht]; rfl
    refine ⟨_, rfl, L, us, rfl, .inl (SqL.of eL), (us.length : Int), rfl, by omega, by omega, ?_⟩
    rw [Int.toNat_natCast, lus]
    have gi1 : ∀ n, gI r N (n + 1) = gI r N n ++ [(gapF r N (n + 1) : Int)] := fun n => by unfold gI; rw [List.range_succ, List.map_append]; rfl
    have bhx := bhK_x (pcA S Y x y) (gapF r N)
    have bhs := bhK_step (pcA S Y x y) (gapF r N)
    have cvs := cvK_step (pcA S Y x y) (gapF r N)
    have hbig : ∀ n, n < N + 1 → bhK (pcA S Y x y) (gapF r N) (n + 1) ≤ M := fun n hn => bhl (n + 1) (by omega)
    refine for_it walk_range (fun n σ' H' => ∃ (x10 x11 x12 x13 : Option V), σ' = [some v, some (.ref wa), some (.ref ta), some (.ref sa), some (nV (psN S (wdsY Y) x y n).1), some (nV (psN S (wdsY Y) x y n).2), some (sV (cvK (pcA S Y x y) (gapF r N) n)), some (.ref G), some (nV (bhK (pcA S Y x y) (gapF r N) n)), some (.ref L), x10, x11, x12, x13] ∧ Same H H' ∧ H' G = some (.lst ((gI r N (n - 1)).map V.int)) ∧ H' L = some (.lst us) ∧ LV (RunV H') us ((List.range (N + 1)).map fun u => (swT (pcA S Y x y) u + gsT (gapF r N) u, (pcA S Y x y u).1))) ⟨none, none, none, none, ?_, k0.trans k1, eG1, eL, lv⟩ (fun _ _ _ _ _ => trivial) ?_ ?_
    · rw [hps0, show (sV (cvK (pcA S Y x y) (gapF r N) 0)) = V.str "" from congrArg V.str empty_mk.symm]; rfl
    · rintro n x0 σ' Ha H2 hn ⟨x10, x11, x12, x13, rfl, k2, eG2, eL2, lv2⟩ ⟨rfl, hx⟩
      have hx : x0 = nV n := by rw [hx]; exact int0 n
      subst hx
      obtain ⟨b, e1, e2, e3, e4, e5, e6, e7, e8, e9⟩ := pf n hn
      obtain ⟨xr, exr, br, rfl, ebr⟩ := lv2.2 n _ (rng n hn)
      obtain ⟨xw, exw, bw, rfl, ebw⟩ := lw.2 (x.1 + n) _ (y_at e3)
      have hz := wz_mem (Z := wdsY Y) (i := x.1 + n) (by rw [wdsY_len]; exact e3)
      have hwd := rd.wd _ hz
      have how := rd.ow _ hz
      have hsk1 := hsk (x.1 + n)
      have hc2 := hcv n
      have bx := bhx n
      have bs := bhs n
      have cs := cvs n
      have b1 := hbig n hn
      have c0 := cvl n
      have c1 := cvl (n + 1)
      have l16 := hwd.len
      have eg1 := gi1 (n - 1)
      have hsp : n ≠ 0 → spcK (gapF r N) n = gapF r N (n - 1 + 1) := fun c => by
        obtain ⟨n, rfl⟩ : ∃ m, n = m + 1 := ⟨n - 1, by omega⟩
        rfl
      have hsp0 : n = 0 → swT (pcA S Y x y) n + gsT (gapF r N) n = 0 := fun c => by subst c; rfl
      generalize swT (pcA S Y x y) n + gsT (gapF r N) n = xn at *
      generalize psN S (wdsY Y) x y n = pn at *
      obtain ⟨i, a⟩ := pn
      have e2 : i = x.1 + n := e2
      subst e2
      have e9 : 0 < n → a = 0 := e9
      have e4 : a < b := e4
      have e1 : (pcA S Y x y n).1 = pieceN S (wz (wdsY Y) (x.1 + n)) a b := e1
      generalize wz (wdsY Y) (x.1 + n) = z at *
      have ew2 := k2 _ _ ew
      have ebw2 := k2 _ _ ebw
      have ebr2 := ebr
      refine ⟨_, rfl, _, rfl, L, us, _, _, rfl, rfl, SqL.of eL2, atI_nat exr, br, _, rfl, SqT.of ebr, rfl, _, _, rfl, _, _, rfl, rfl, ?_⟩
      dsimp only [tSeq, tNext]
      refine ifs_of (p := (x.1 + n = Y.length) ∨ ((((0 : Int) < (n : Int)) ∧ ((0 : Int) < (a : Int))) ∨ (n = 0 ∧ (0 : Int) < (xn : Int)))) (or_one (fun R h => ⟨_, rfl, _, rfl, wa, ws, rfl, .inr (SqT.of ew2), rfl, _, congrArg V.bl (decide_eq_decide.mpr ⟨fun h => by have h := V.int.inj h; omega, fun h => congrArg V.int (by omega)⟩), h⟩) (fun _ => or_one (and_one (fun R h => ⟨_, rfl, _, _, rfl, rfl, _, rfl, h⟩) (fun R h => ⟨_, rfl, _, _, rfl, rfl, _, rfl, h⟩)) (fun _ => and_one (fun R h => ⟨_, rfl, rfl, _, congrArg V.bl (nV_zero n), h⟩) (fun R h => ⟨_, rfl, _, _, rfl, rfl, _, rfl, h⟩)))) (fun c => ?_) (fun _ => ?_)
      · exfalso
        rcases c with c | ⟨c1, c2⟩ | ⟨c1, c2⟩
        · omega
        · have := e9 (by omega); omega
        · have := hsp0 c1; omega
      refine ⟨_, rfl, _, rfl, _, rfl, wa, _, _, _, rfl, rfl, SqT.of ew2, atI_nat exw, bw, _, 0, _, rfl, rfl, SqT.of ebw2, rfl, _, rfl, _, rfl, ?_⟩
      refine ⟨v, S, z, a, b, congrArg (fun q => [v, sV z, nV a, sV q]) e1, sv.mono (same_tup k2), rd.st, hwd, fun c hc => (how c hc).1, e4, e5, e6, fun H3 k3 => ?_⟩
      refine ⟨_, rfl, rfl, _, rfl, ?_⟩
      refine iteF ?_
      have eG3 := k3 _ _ eG2
      have eL3 := k3 _ _ eL2
      have ebr3 := k3 _ _ ebr
      dsimp only [tSeq, tNext]
      refine ifs_mid (p := (0 : Int) < (n : Int)) (fun σ' H' => σ' = [some v, some (.ref wa), some (.ref ta), some (.ref sa), some (nV (x.1 + n)), some (nV a), some (sV (cvK (pcA S Y x y) (gapF r N) n)), some (.ref G), some (nV (bhK (pcA S Y x y) (gapF r N) n)), some (.ref L), some (nV n), some (nV xn), some (sV (pcA S Y x y n).1), some (nV b)] ∧ Same H H' ∧ H' G = some (.lst ((gI r N n).map V.int)) ∧ H' L = some (.lst us) ∧ LV (RunV H') us ((List.range (N + 1)).map fun u => (swT (pcA S Y x y) u + gsT (gapF r N) u, (pcA S Y x y u).1))) (fun R h => ⟨_, rfl, _, _, rfl, rfl, _, rfl, h⟩) (fun c k => ?_) (fun c k => ?_) ?_
      · have hn0 : n ≠ 0 := by omega
        have hsub0 : ((xn : Int) - (bhK (pcA S Y x y) (gapF r N) n : Int)) = (spcK (gapF r N) n : Int) := by omega
        have lgi : ((gI r N (n - 1)).map V.int).length ≤ n := by unfold gI; rw [List.length_map, List.length_map, List.length_range]; omega
        refine ⟨.ref G, rfl, .inl ⟨rfl, _, .inl (.inl eG3)⟩, _, rfl, _, rfl, _, _, rfl, rfl, G, _, _, rfl, rfl, eG3, lt_s (by omega), ?_⟩
        have kt := kt_mut (zs := (gI r N (n - 1)).map V.int ++ [V.int ((xn : Int) - (bhK (pcA S Y x y) (gapF r N) n : Int))]) eG3
        have nLG := hLG
        refine k _ _ ⟨rfl, same_mut (k2.trans k3) nG, ?_, by rw [upd_ne nLG]; exact eL3, lv2.mono fun _ _ z => z.kt fun a xs e => kt _ _ (k3 _ _ e)⟩
        rw [upd_same]
        have eg2 : gI r N n = gI r N (n - 1) ++ [(spcK (gapF r N) n : Int)] := by
          rw [hsp hn0, ← eg1, show n - 1 + 1 = n by omega]
        rw [eg2, List.map_append]
        exact congrArg (fun z => some (HO.lst (List.map V.int (gI r N (n - 1)) ++ [V.int z]))) hsub0
      · have hn0 : n = 0 := by omega
        refine k _ _ ⟨rfl, k2.trans k3, ?_, eL3, lv2.mono fun _ _ z => z.kt (same_tup k3)⟩
        rw [hn0] at eG3 ⊢
        exact eG3
      rintro σ4 H4 ⟨rfl, k4, eG4, eL4, lv4⟩
      have ew4 := k4 _ _ ew
      have ebw4 := k4 _ _ ebw
      have hbp : (mkS (pcA S Y x y n).1).length ≤ sizeLine := by rw [mkS_len]; exact big_ok (by omega)
      have hbz : (mkS z).length ≤ sizeLine := by rw [mkS_len]; exact big_ok (by omega)
      have hsub : ((xn : Int) - (bhK (pcA S Y x y) (gapF r N) n : Int)) = (spcK (gapF r N) n : Int) := by omega
      have d1 := c1
      rw [cs, List.length_append, List.length_append, List.length_replicate] at d1
      have d2 : (pcA S Y x y n).2.1.length = (pcA S Y x y n).1.length := by rw [hc2, List.length_replicate]
      refine ⟨_, rfl, _, rfl, _, rfl, _, _, rfl, rfl, " ", _, rfl, congrArg V.int hsub, mul_ok1 (by omega) (by decide), _, _, rfl, rfl, ?_, ?_⟩
      · rw [blk_mk, mul_sign, mkS_len, mkS_len, List.length_replicate]; exact big_ok (by omega)
      rw [blk_mk, mul_sign, mkS_app]
      refine if_one (p := nV (skN Y (x.1 + n)) = V.int 1) (x := sV [if skN Y (x.1 + n) = 0 then 32 else 35]) (fun R h => ⟨_, rfl, _, rfl, wa, _, _, _, rfl, rfl, SqT.of ew4, atI_nat exw, bw, _, 1, _, rfl, rfl, SqT.of ebw4, rfl, rfl, _, rfl, h⟩) (fun c R h => ?_) (fun c R h => ?_) ?_
      · have c : skN Y (x.1 + n) = 1 := Int.ofNat.inj (V.int.inj c)
        rw [if_neg (by omega)] at h
        show R (.str "#") _
        rw [cvr_mk]; exact h
      · have c : skN Y (x.1 + n) ≠ 1 := fun z => c (by rw [z]; rfl)
        rw [if_pos (by omega)] at h
        show R (.str " ") _
        rw [blk_mk]; exact h
      refine ⟨_, rfl, _, rfl, hbp, _, _, rfl, rfl, ?_, _, _, rfl, rfl, ?_, ?_⟩
      · rw [mkS_len]
        exact mul_ok1 (by omega) (by rw [mkS_len]; exact (by decide : 1 ≤ 100))
      · rw [mkS_len, mkS_len, mul_sign, mkS_len, List.length_append, List.length_replicate, List.length_replicate]; exact big_ok (by omega)
      rw [mkS_len, mul_sign, mkS_app, ← hc2, ← cs]
      refine ⟨_, rfl, _, rfl, _, rfl, hbp, _, _, rfl, rfl, ?_⟩
      refine ⟨_, rfl, ?_⟩
      have ebh1 : V.int ((xn : Int) + ((mkS (pcA S Y x y n).1).length : Int)) = nV (bhK (pcA S Y x y) (gapF r N) (n + 1)) := congrArg V.int (by rw [mkS_len]; omega)
      dsimp only [gName]
      rw [ebh1]
      refine ⟨_, rfl, _, rfl, _, rfl, wa, _, _, _, rfl, rfl, SqT.of ew4, atI_nat exw, bw, _, 0, _, rfl, rfl, SqT.of ebw4, rfl, _, rfl, hbz, rfl, _, rfl, ?_⟩
      refine ifD (fun c => ?_) (fun c => ?_)
      · have c : b = z.length := by
          have h : (b : Int) = ((mkS z).length : Int) := V.int.inj c
          rw [mkS_len] at h
          omega
        rw [e7 c]
        refine ⟨_, rfl, _, _, rfl, rfl, ?_⟩
        exact ⟨_, _, _, _, rfl, k4, eG4, eL4, lv4⟩
      · have c : b ≠ z.length := fun e => c (congrArg V.int (show (b : Int) = ((mkS z).length : Int) by rw [mkS_len]; omega))
        rw [e8 c]
        exact ⟨_, _, _, _, rfl, k4, eG4, eL4, lv4⟩
    · rintro σ' H2 ⟨x10, x11, x12, x13, rfl, k2, eG2, eL2, lv2⟩
      have es2 := k2 _ _ es
      have hbl : (mkS l).length ≤ sizeLine := by rw [mkS_len]; exact big_ok (by omega)
      have b1 := bhl (N + 1) (Nat.le_refl _)
      have c1 := cvl (N + 1)
      rw [hpsN]
      have er : ((mkS l).length : Int) - (bhK (pcA S Y x y) (gapF r N) (N + 1) : Int) = ((M - bhK (pcA S Y x y) (gapF r N) (N + 1) : Nat) : Int) := by rw [mkS_len]; omega
      dsimp only [tSeq, tNext]
      refine ifs_of (p := False ∨ False) (or_one (fun R h => ⟨_, rfl, true, .inl ⟨us, SqL.of eL2, ?_⟩, h⟩) (fun _ R h => ⟨_, rfl, _, rfl, sa, _, 0, _, rfl, rfl, SqT.of es2, rfl, _, rfl, hbl, _, rfl, _, _, rfl, rfl, " ", _, rfl, congrArg V.int er, mul_ok1 (by omega) (by decide), _, _, rfl, rfl, ?_, _, rfl, sa, _, 1, _, rfl, rfl, SqT.of es2, rfl, rfl, false, ?_, h⟩)) (fun c => c.elim False.elim False.elim) (fun _ => ?_)
      · cases us with
        | nil => cases lus
        | cons _ _ => rfl
      · rw [blk_mk, mul_sign, mkS_len, mkS_len, List.length_replicate]; exact big_ok (by omega)
      · rw [blk_mk, mul_sign, mkS_app, ← ecv]
        exact congrArg V.bl (not_dec' rfl)
      refine ⟨_, rfl, _, rfl, by show 2 ≤ sizeLine; decide, fun t nt => ?_⟩
      have k3 := same_upd (o := .tup [nV y.1, nV (eA S (wz (wdsY Y) y.1) y.2)]) (Same.refl H2) nt
      have e3 : upd H2 t (.tup [nV y.1, nV (eA S (wz (wdsY Y) y.1) y.2)]) t = some (.tup [nV y.1, nV (eA S (wz (wdsY Y) y.1) y.2)]) := upd_same
      generalize upd H2 t (.tup [nV y.1, nV (eA S (wz (wdsY Y) y.1) y.2)]) = H3 at k3 e3
      refine ⟨_, rfl, _, rfl, by show 3 ≤ sizeLine; decide, fun R nR => ?_⟩
      rw [ebh]
      have k5 := same_upd (o := .tup [V.ref t, V.ref G, nV (swT (pcA S Y x y) (N + 1) + N + N * r / N)]) (Same.refl H3) nR
      exact q _ R ((k2.trans k3).trans k5) ⟨t, G, upd_same, k5 _ _ e3, k5 _ _ (k3 _ _ eG2)⟩
end
end Vf

set_option Elab.async false
set_option linter.all false
set_option maxRecDepth 100000
set_option maxHeartbeats 4000000
namespace Vf
open PySem PySem.Spec PyProof.Rows L2 TL LamX
theorem rw_first {Pr : Arc → Prop} {f g : Nat → Option Nat} (B : Bd Pr f g) (dn : ∀ v u, g v = some u → u < v) : ∀ n v, v ≤ n → ∀ z, f v = some z → ∃ xs, Rw g v = xs ++ [0]
  | n, 0, _, z, _ => ⟨[], Rw_none B.z.2⟩
  | 0, v + 1, h, _, _ => absurd h (by omega)
  | n + 1, v + 1, h, z, e => by
    obtain ⟨u, c, x, h1, h2, h3, _⟩ := B.s (v + 1) z (by omega) e
    have hd := dn _ _ h1
    obtain ⟨xs, ex⟩ := rw_first B dn n u (by omega) x h3
    exact ⟨(v + 1) :: xs, by rw [Rw_some dn h1, ex]; rfl⟩
theorem posL_last (S : Sty) (Z : List (List Nat)) : atQ S Z ((posL S Z).length - 1) = (Z.length, 0) := by
  unfold atQ posL
  rw [List.length_append]
  show ((List.range Z.length).flatMap (rowL S Z) ++ [(Z.length, 0)]).getD (((List.range Z.length).flatMap (rowL S Z)).length + 1 - 1) (0, 0) = _
  rw [Nat.add_sub_cancel, List.getD_eq_getElem?_getD, List.getElem?_append_right (Nat.le_refl _), Nat.sub_self]; rfl
theorem ifs_orH {a b : TT} {s t : TS} {D : Ends} {σ : L2.St} {H : Hp} (ha : ∀ R : Bool → Hp → Prop, R false H → a σ H R) (hb : ∀ R : Bool → Hp → Prop, (∀ H', Same H H' → R false H') → b σ H R) (h : ∀ H', Same H H' → t D σ H') : tIfS (tOr a b) s t D σ H :=
  ha _ (hb _ h)
section
variable {P : Program} {w : World} {K : PySem.W.Frag} {mg : Str → Option Value} {base : Heap}
def spWT : Sp := fun vs H Q _ => ∃ (v : V) (wa : Addr) (ws : List V) (S : Sty) (Y : List (List Nat × Nat)) (M : Nat) (rag : Bool) (ns : List Nat) (x : V), vs = [v, nV M, .ref wa, .bl rag, x] ∧ StyV H v S ∧ H wa = some (.tup ws) ∧ LV (WkV H) ws Y ∧ RdOk S Y ∧ WayF M S (wdsY Y) ns ∧ ns.getD 0 0 = 0 ∧ ns.length ≤ 91 ∧ CutV H x (strF S Y M rag ns) ∧ M ≤ 20000 ∧
  ∀ H' W us, Same H H' → H' W = some (.lst us) → LV (FgV H') us (ns.map (atQ S (wdsY Y))) → Q (.ref W) H'
theorem ok_wt (T : Txt K mg) : FnOk P w K mg base CX0 5 T.a_law_way_told T.d_law_way_told ["_law_style", "_law_measure_here", "_law_words", "_law_close", "_law_strips"] spWT := by
  have G_law_line_read : FnOk P w K mg base CX0 3 T.a_law_line_read T.d_law_line_read ["_law_style", "_law_words", "_law_start", "_law_strip"] spLR := ok_lr T
  have G_law_gaps_hold : FnOk P w K mg base CX0 1 T.a_law_gaps_hold T.d_law_gaps_hold ["_law_measure_here", "_law_gaps", "_law_behind", "_law_close"] spGH := ok_gh T
  have G_law_position : FnOk P w K mg base CX0 2 T.a_law_position T.d_law_position ["_law_style", "_law_words", "_law_at"] spPosn := ok_posn T
  refine T.D_law_way_told.F.ok sc_law_way_told (fun vs H Q E h => ?_) (fun cdv A outer s H vs Q E hr h => ?_)
  · obtain ⟨_, _, _, _, _, _, _, _, _, rfl, _⟩ := h
    rfl
  · obtain ⟨v, wa, ws, S, Y, M, rag, ns, x, rfl, sv, ew, lw, rd, wf, h0, l91, cut, hM, q⟩ := h
    have lws := lw.1
    have l1 := wf.pos
    have l40 := rd.ln
    obtain ⟨xp, xs, rfl, ex, lx⟩ := id cut
    have lxl := lx.1
    have lsn : (strF S Y M rag ns).length = ns.length - 1 := by unfold strF; rw [List.length_map, List.length_range]
    have nst : ∀ u, u + 1 < ns.length → (strF S Y M rag ns)[u]? = some (lnF S Y M (rag || decide (u + 2 = ns.length)) (atQ S (wdsY Y) (ns.getD u 0)) (atQ S (wdsY Y) (ns.getD (u + 1) 0))) := fun u hu => by
      unfold strF
      rw [List.getElem?_map, List.getElem?_range (by omega)]; rfl
    have nat : ∀ u, u < ns.length → (ns.map (atQ S (wdsY Y)))[u]? = some (atQ S (wdsY Y) (ns.getD u 0)) := fun u hu => getD_map (f := atQ S (wdsY Y)) (xs := ns) (d := 0) hu
    refine ⟨_, (pss_cons (ps_if (pt_not (pt_val (pe_callB call_isi (by rfl) T.n_isinstance (by decide +kernel) (pa_cons (pv 4) (pa_cons (pe_bltn (v := .ty "tuple") (by rfl) T.n_tuple (by decide +kernel) rfl) pa_nil))))) (pss_one (ps_ret pe_non)) pss_nil)
      (pss_cons (ps_set (i := 5) sc_law_way_told.nd rfl (.inl rfl) (pe_tup (pa_cons pe_int (pa_cons pe_int pa_nil))))
      (pss_cons (ps_set (i := 6) sc_law_way_told.nd rfl (.inl rfl) (pe_lst (pa_cons (pv 5) pa_nil)))
      (pss_cons (ps_for PassesOwn.never rfl (pi_range1 (by rfl) T.n_range (pa_cons (pe_callB call_len (by rfl) T.n_len PySem.boot_len (pa_cons (pv 4) pa_nil)) pa_nil)) (pg_name (i := 7) sc_law_way_told.nd rfl (.inl rfl)) (pss_cons (ps_set (i := 8) sc_law_way_told.nd rfl (.inl rfl) (pe_ix ix_seq (pv 4) (pv 7) (fun _ _ => rfl)))
      (pss_cons (ps_if (PW.pt (pw_or (pt_not (pt_val (pe_callB call_isi (by rfl) T.n_isinstance (by decide +kernel) (pa_cons (pv 8) (pa_cons (pe_bltn (v := .ty "tuple") (by rfl) T.n_tuple (by decide +kernel) rfl) pa_nil))))) (pw_or1 (pt_cmpR op_ne (pe_callB call_len (by rfl) T.n_len PySem.boot_len (pa_cons (pv 8) pa_nil)) pe_int (nomark _))))) (pss_one (ps_ret pe_non)) pss_nil)
      (pss_cons (ps_if (PW.pt (pw_or (pt_not (pt_val (pe_callB call_isi (by rfl) T.n_isinstance (by decide +kernel) (pa_cons (pe_ix ix_seq (pv 8) pe_int (fun _ _ => rfl)) (pa_cons (pe_bltn (v := .ty "str") (by rfl) T.n_str (by decide +kernel) rfl) pa_nil))))) (pw_or (pt_not (pt_val (pe_callB call_isi (by rfl) T.n_isinstance (by decide +kernel) (pa_cons (pe_ix ix_seq (pv 8) pe_int (fun _ _ => rfl)) (pa_cons (pe_bltn (v := .ty "str") (by rfl) T.n_str (by decide +kernel) rfl) pa_nil))))) (pw_or1 (pt_cmpR op_ne (pe_callB call_len (by rfl) T.n_len PySem.boot_len (pa_cons (pe_ix ix_seq (pv 8) pe_int (fun _ _ => rfl)) pa_nil)) (pv 1) (nomark _)))))) (pss_one (ps_ret pe_non)) pss_nil)
      (pss_cons (ps_set (i := 9) sc_law_way_told.nd rfl (.inl rfl) (pe_call G_law_line_read (hr.mono (by decide)) (by rfl) T.D_law_line_read.G T.D_law_line_read.F.kp T.D_law_line_read.B .nil pass0 (pa_cons (pv 0) (pa_cons (pv 2) (pa_cons (pv 5) (pa_cons (pv 8) pa_nil))))))
      (pss_cons (ps_if (PW.pt (pw_or (pt_cmpR op_isN (pv 9) pe_non (nomark _)) (pw_or1 (pt_not (pt_val (pe_call G_law_gaps_hold (hr.mono (by decide)) (by rfl) T.D_law_gaps_hold.G T.D_law_gaps_hold.F.kp T.D_law_gaps_hold.B .nil pass0 (pa_cons (pv 1) (pa_cons (pe_ix ix_seq (pv 9) pe_int (fun _ _ => rfl)) (pa_cons (pe_ix ix_seq (pv 9) pe_int (fun _ _ => rfl)) (pa_cons (pe_or (pv 3) (pe_one (pe_cmpR op_eq (pv 7) (pe_op op_sub (pe_callB call_len (by rfl) T.n_len PySem.boot_len (pa_cons (pv 4) pa_nil)) pe_int) (nomark _)))) pa_nil)))))))))) (pss_one (ps_ret pe_non)) pss_nil)
      (pss_cons (ps_set (i := 5) sc_law_way_told.nd rfl (.inl rfl) (pe_ix ix_seq (pv 9) pe_int (fun _ _ => rfl)))
      (pss_one (ps_expr (pe_bm PySem.F.plainAttrs_list PySem.F.slot_list_append PySem.F.type_list_append mt_append (pv 6) (pa_cons (pe_call G_law_position (hr.mono (by decide)) (by rfl) T.D_law_position.G T.D_law_position.F.kp T.D_law_position.B .nil pass0 (pa_cons (pv 0) (pa_cons (pv 2) (pa_cons (pv 5) pa_nil)))) pa_nil)))))))))))
      (pss_one (ps_ret (pe_ifExp (pt_cmpR (op_eqD (Room.units hr)) (pv 5) (pe_tup (pa_cons (pe_callB call_len_seq (by rfl) T.n_len PySem.boot_len (pa_cons (pv 2) pa_nil)) (pa_cons pe_int pa_nil))) (nomark _)) (pv 6) pe_non))))))), ?_⟩
    refine ⟨_, rfl, _, _, .type "tuple", .type "tuple", true, rfl, .ty _, .base (.tup ex), kit_ty (by decide +kernel), true, rfl, ?_⟩
    refine iteF ?_
    refine ⟨by show 2 ≤ sizeLine; decide, fun ta nta => ?_⟩
    have k1 := same_upd (o := .tup [V.int 0, V.int 0]) (Same.refl H) nta
    have eta : upd H ta (.tup [V.int 0, V.int 0]) ta = some (.tup [nV 0, nV 0]) := upd_same
    generalize upd H ta (.tup [V.int 0, V.int 0]) = H1 at k1 eta
    refine ⟨_, rfl, by show 1 ≤ sizeLine; decide, fun W nW => ?_⟩
    have k2 := same_upd (o := .lst [V.ref ta]) (Same.refl H1) nW
    have eW : upd H1 W (.lst [V.ref ta]) W = some (.lst [V.ref ta]) := upd_same
    generalize upd H1 W (.lst [V.ref ta]) = H2 at k2 eW
    have nW0 : H W = none := Same.free k1 nW
    have k12 := k1.trans k2
    refine ⟨_, rfl, _, xs.length, rfl, .inr ⟨xs, SqT.of (k12 _ _ ex), rfl⟩, (xs.length : Int), rfl, by omega, by omega, ?_⟩
    rw [Int.toNat_natCast, show xs.length = ns.length - 1 by omega]
    have a0 : atQ S (wdsY Y) (ns.getD 0 0) = (0, 0) := by rw [h0]; exact atQ_zero
    refine for_it walk_range (fun u σ' H' => ∃ (x7 x8 x9 : Option V) (tu : Addr) (us : List V), σ' = [some v, some (nV M), some (.ref wa), some (.bl rag), some (.ref xp), some (.ref tu), some (.ref W), x7, x8, x9] ∧ Same H H' ∧ H' W = some (.lst us) ∧ LV (FgV H') us ((ns.map (atQ S (wdsY Y))).take (u + 1)) ∧ H' tu = some (.tup [nV (atQ S (wdsY Y) (ns.getD u 0)).1, nV (eA S (wz (wdsY Y) (atQ S (wdsY Y) (ns.getD u 0)).1) (atQ S (wdsY Y) (ns.getD u 0)).2)])) ⟨none, none, none, ta, [.ref ta], rfl, k12, eW, ?_, ?_⟩ (fun _ _ _ _ _ => trivial) ?_ ?_
    · rw [show (ns.map (atQ S (wdsY Y))).take (0 + 1) = [] ++ [atQ S (wdsY Y) (ns.getD 0 0)] by rw [List.take_succ, nat 0 (by omega)]; rfl, a0]
      exact LV.snoc LV.nil ⟨ta, rfl, k2 _ _ eta⟩
    · rw [a0]
      exact k2 _ _ eta
    · rintro u x0 σ' Ha H3 hu ⟨x7, x8, x9, tu, us, rfl, k3, eW3, lu, etu⟩ ⟨rfl, hx⟩
      have hx : x0 = nV u := by rw [hx]; exact int0 u
      subst hx
      have hu1 : u + 1 < ns.length := by omega
      obtain ⟨xc, exc, bc, rfl, ebc⟩ := lx.2 u _ (nst u hu1)
      have two := wf.two u hu1
      have fit := wf.fit u hu1
      have nat1 := nat (u + 1) hu1
      generalize atQ S (wdsY Y) (ns.getD u 0) = px at *
      generalize atQ S (wdsY Y) (ns.getD (u + 1) 0) = py at *
      have tp := two_pos two
      rw [wdsY_len] at tp
      have sn := sw_nat rd.st two
      have e0 : lnF S Y M (rag || decide (u + 2 = ns.length)) px py = lnC (pcA S Y px py) (pcsN px py - 1) M (rstF (rag || decide (u + 2 = ns.length)) M (natW S (wdsY Y) px.1 px.2 py)) := rfl
      rw [e0] at ebc
      generalize hlo : (rag || decide (u + 2 = ns.length)) = lo at *
      have hfit : swT (pcA S Y px py) (pcsN px py) + (pcsN px py - 1) + (pcsN px py - 1) * (rstF lo M (natW S (wdsY Y) px.1 px.2 py)) / (pcsN px py - 1) ≤ M := by
        unfold rstF
        by_cases c : 0 < pcsN px py - 1
        · rw [mid_div c]
          split <;> omega
        · have : pcsN px py - 1 = 0 := by omega
          rw [this, Nat.zero_mul, Nat.zero_div]; omega
      have hll : (lnC (pcA S Y px py) (pcsN px py - 1) M (rstF lo M (natW S (wdsY Y) px.1 px.2 py))).1.length = M := by
        have rs := row_sg (pcA S Y px py) (gapF (rstF lo M (natW S (wdsY Y) px.1 px.2 py)) (pcsN px py - 1)) (pcsN px py - 1)
        have gt := gs_tel (rstF lo M (natW S (wdsY Y) px.1 px.2 py)) (pcsN px py - 1) (pcsN px py - 1)
        rw [show pcsN px py - 1 + 1 = pcsN px py by omega] at rs
        show ((rowS (pcA S Y px py) (gapF (rstF lo M (natW S (wdsY Y) px.1 px.2 py)) (pcsN px py - 1)) (pcsN px py - 1)).flatMap (fun s : Stp => s.1) ++ List.replicate (M - ((rowS (pcA S Y px py) (gapF (rstF lo M (natW S (wdsY Y) px.1 px.2 py)) (pcsN px py - 1)) (pcsN px py - 1)).flatMap (fun s : Stp => s.1)).length) 32).length = M
        rw [List.length_append, List.length_replicate]
        omega
      have hr0 : rstF lo M (natW S (wdsY Y) px.1 px.2 py) = if lo = true then 0 else M - (swT (pcA S Y px py) (pcsN px py) + (pcsN px py - 1)) := by rw [sn]; rfl
      generalize rstF lo M (natW S (wdsY Y) px.1 px.2 py) = r at *
      have hbl : (mkS (lnC (pcA S Y px py) (pcsN px py - 1) M r).1).length ≤ sizeLine := by rw [mkS_len, hll]; exact big_ok (by omega)
      have ebc3 := k3 _ _ ebc
      have ex3 := k3 _ _ ex
      refine ⟨_, rfl, _, rfl, SeqH.rix (.inl ex3) (atI_nat exc) ?_⟩
      dsimp only [tSeq, tNext, gName, tAsg]
      refine ifs_of (p := False ∨ False) (or_one (fun R h => ⟨_, rfl, _, _, .type "tuple", .type "tuple", true, rfl, .ty _, .base (.tup ebc3), kit_ty (by decide +kernel), true, rfl, h⟩) (fun _ R h => ⟨_, rfl, _, 2, rfl, .inr ⟨_, SqT.of ebc3, rfl⟩, rfl, false, rfl, h⟩)) (fun c => c.elim False.elim False.elim) (fun _ => ?_)
      dsimp only [tSeq, tNext, gName, tAsg]
      refine ifs_of (p := False ∨ (False ∨ False)) (or_one (fun R h => ⟨_, rfl, SeqH.rix (.inl ebc3) (atI_nat (j := 0) rfl) ⟨_, _, .type "str", .type "str", true, rfl, .ty _, .base (.str _), kit_ty (by decide +kernel), true, rfl, h⟩⟩) (fun _ => or_one (fun R h => ⟨_, rfl, SeqH.rix (.inl ebc3) (atI_nat (j := 1) rfl) ⟨_, _, .type "str", .type "str", true, rfl, .ty _, .base (.str _), kit_ty (by decide +kernel), true, rfl, h⟩⟩) (fun _ R h => ⟨_, rfl, SeqH.rix (.inl ebc3) (atI_nat (j := 0) rfl) ⟨_, _, rfl, ⟨hbl, rfl⟩, _, rfl, rfl, false, ?_, h⟩⟩))) (fun c => c.elim False.elim fun c => c.elim False.elim False.elim) (fun _ => ?_)
      · exact congrArg V.bl (not_dec' (congrArg V.int (by rw [mkS_len, hll])))
      refine ⟨_, rfl, _, rfl, _, rfl, _, rfl, v, wa, tu, bc, ws, S, Y, M, r, px, py, rfl, sv.mono (same_tup k3), k3 _ _ ew, lw.mono fun _ _ z => z.kt (same_tup k3), rd, etu, ebc3, ⟨two, hfit, hM⟩, fun H4 R k4 rv => ?_⟩
      obtain ⟨t, G, eR, et, eG⟩ := rv
      have k34 := k3.trans k4
      have ex4 := k34 _ _ ex
      have edl : decide (nV u = V.int ((xs.length : Int) - 1)) = decide (u + 2 = ns.length) := decide_eq_decide.mpr ⟨fun h => by have h := V.int.inj h; omega, fun h => congrArg V.int (by omega)⟩
      have posn : ∃ (xw : V) (z : List Nat) (q0 : Nat), WdOk z ∧ (py.2 = 0 → eA S (wz (wdsY Y) py.1) py.2 = 0) ∧ (0 < py.2 → ws[py.1]? = some xw ∧ WkV H xw (z, q0) ∧ ∃ r, (places S z)[py.2 - 1]? = some r ∧ r.1 = eA S (wz (wdsY Y) py.1) py.2) := by
        by_cases c : py.2 = 0
        · exact ⟨.non, wz (wdsY Y) px.1, 0, rd.wd _ (wz_mem two.1), fun _ => by rw [c]; exact eA_zero _ _, fun h => by omega⟩
        · have hy : py.1 < (wdsY Y).length ∧ py.2 ≤ nP S (wz (wdsY Y) py.1) := by
            rcases two.2.2 with ⟨e, a, b⟩ | ⟨a, h4 | h4⟩
            · exact ⟨e ▸ two.1, e ▸ b⟩
            · exact absurd (Prod.mk.inj h4).2 c
            · exact h4
          have hy1 := hy.1
          rw [wdsY_len] at hy1
          obtain ⟨xw, exw, hw⟩ := lw.2 py.1 _ (y_at hy1)
          obtain ⟨r0, g1, g2⟩ := eA_mid (by omega) hy.2
          exact ⟨xw, wz (wdsY Y) py.1, skN Y py.1, rd.wd _ (wz_mem hy.1), fun z => absurd z c, fun _ => ⟨exw, hw, r0, g1, g2⟩⟩
      dsimp only [tSeq, tNext, gName, tAsg]
      refine ifs_orH (fun R h => ⟨_, rfl, rfl, _, rfl, h⟩) (fun R' h => ?_) (fun H5 k5 => ?_)
      · refine ⟨_, rfl, _, rfl, SeqH.rix (.inl eR) (atI_nat (j := 1) rfl) ⟨_, rfl, SeqH.rix (.inl eR) (atI_nat (j := 2) rfl) ?_⟩⟩
        refine orV_any (a := rag) (p := nV u = V.int ((xs.length : Int) - 1)) (fun R' h => ⟨_, rfl, h⟩) (fun R' h => ⟨_, rfl, _, rfl, _, xs.length, rfl, .inr ⟨xs, SqT.of ex4, rfl⟩, _, _, rfl, rfl, rfl, h⟩) ?_
        rw [edl, hlo]
        exact ⟨G, M, pcsN px py - 1, r, swT (pcA S Y px py) (pcsN px py), lo, rfl, eG, by omega, hM, by omega, hr0, fun H5 k5 => ⟨true, rfl, h H5 k5⟩⟩
      have k35 := k34.trans k5
      have eR5 := k5 _ _ eR
      have et5 := k5 _ _ et
      have eW5 := (k4.trans k5) _ _ eW3
      obtain ⟨xw, z, q0, wz0, hq0, hq1⟩ := posn
      refine ⟨_, rfl, SeqH.rix (.inl eR5) (atI_nat (j := 0) rfl) ?_⟩
      have lul := lu.1
      rw [List.length_take, List.length_map] at lul
      refine ⟨.ref W, rfl, .inl ⟨rfl, _, .inl (.inl eW5)⟩, _, rfl, _, rfl, _, rfl, v, xw, wa, t, ws, S, z, py.1, py.2, _, q0, rfl, sv.mono (same_tup k35), rd.st, wz0, k35 _ _ ew, et5, hq0, fun c => ⟨(hq1 c).1, (hq1 c).2.1.kt (same_tup k35), (hq1 c).2.2⟩, fun H6 x6 k6 fx => ?_⟩
      have eW6 := k6 _ _ eW5
      have kt := kt_mut (zs := us ++ [x6]) eW6
      have k46 := (k4.trans k5).trans k6
      refine ⟨W, us, x6, rfl, rfl, eW6, lt_s (by omega), _, _, _, t, us ++ [x6], rfl, same_mut (k35.trans k6) nW0, upd_same, ?_, kt _ _ (k6 _ _ et5)⟩
      rw [show (ns.map (atQ S (wdsY Y))).take (u + 1 + 1) = (ns.map (atQ S (wdsY Y))).take (u + 1) ++ [py] by rw [List.take_succ, nat1]; rfl]
      refine LV.snoc (lu.mono fun _ _ z => z.kt fun a xs e => kt _ _ (k46 _ _ e)) (FgV.kt fx kt)
    · rintro σ' H3 ⟨x7, x8, x9, tu, us, rfl, k3, eW3, lu, etu⟩
      have hlast : atQ S (wdsY Y) (ns.getD (ns.length - 1) 0) = ((wdsY Y).length, 0) := by rw [wf.last]; exact posL_last _ _
      rw [hlast] at etu
      have e0 : eA S (wz (wdsY Y) (wdsY Y).length) 0 = 0 := eA_zero _ _
      have etu : H3 tu = some (.tup [nV (wdsY Y).length, nV 0]) := by rw [etu]; exact congrArg (fun z => some (HO.tup [nV (wdsY Y).length, nV z])) e0
      rw [show ns.length - 1 + 1 = ns.length by omega, List.take_of_length_le (by rw [List.length_map]; exact Nat.le_refl _)] at lu
      refine ⟨_, rfl, _, rfl, wa, ws, rfl, .inr (SqT.of (k3 _ _ ew)), by show 2 ≤ sizeLine; decide, fun t nt => ?_⟩
      have e5 : V.int (ws.length : Int) = nV (wdsY Y).length := congrArg V.int (by rw [wdsY_len]; omega)
      have k4 := same_upd (o := .tup [V.int (ws.length : Int), V.int 0]) (Same.refl H3) nt
      have et : upd H3 t (.tup [V.int (ws.length : Int), V.int 0]) t = some (.tup [nV (wdsY Y).length, nV 0]) := by rw [upd_same, e5]; rfl
      generalize upd H3 t (.tup [V.int (ws.length : Int), V.int 0]) = H4 at k4 et
      refine ⟨_, _, pair_dp (r := ((wdsY Y).length, 0)) ⟨tu, rfl, k4 _ _ etu⟩, pair_dp (r := ((wdsY Y).length, 0)) ⟨t, rfl, et⟩, dN_shaped _, dN_shaped _, true, congrArg V.bl ((pair_eqv _ _).trans (decide_eq_true rfl)), _, rfl, ?_⟩
      exact q H4 W us (k3.trans k4) (k4 _ _ eW3) (lu.mono fun _ _ z => z.kt (same_tup k4))
end
end Vf

set_option Elab.async false
set_option linter.all false
set_option maxRecDepth 100000
set_option maxHeartbeats 4000000
namespace Vf
open PySem PySem.Spec PyProof.Rows L2 TL LamX
def cstN (M L : Nat) (S : Sty) (Z : List (List Nat)) (ns : List Nat) (u : Nat) : Nat := costQ M L S Z (atQ S Z (ns.getD u 0)).2 (atQ S Z (ns.getD (u + 1) 0)) (natW S Z (atQ S Z (ns.getD u 0)).1 (atQ S Z (ns.getD u 0)).2 (atQ S Z (ns.getD (u + 1) 0)))
def totN (M L : Nat) (S : Sty) (Z : List (List Nat)) (ns : List Nat) : Nat → Nat
  | 0 => 0
  | u + 1 => totN M L S Z ns u + cstN M L S Z ns u
section
variable {P : Program} {w : World} {K : PySem.W.Frag} {mg : Str → Option Value} {base : Heap}
def spTot : Sp := fun vs H Q _ => ∃ (sa wy : Addr) (us ys : List V) (S : Sty) (Z : List (List Nat)) (M L : Nat) (ns : List Nat), vs = [nV M, nV L, .ref sa, .ref wy] ∧ SeqH H sa us ∧ LV (ShV S H) us Z ∧ WdsOk S Z ∧ (∀ z ∈ Z, WdOk z) ∧ SeqH H wy ys ∧ LV (FgV H) ys (ns.map (atQ S Z)) ∧ WayF M S Z ns ∧ ns.length ≤ 91 ∧ M ≤ 1000000 ∧
  ∀ H', Same H H' → Q (nV (totN M L S Z ns (ns.length - 1))) H'
theorem ok_tot (T : Txt K mg) : FnOk P w K mg base CX0 4 T.a_law_total T.d_law_total ["_law_measure_here", "_law_ladder", "_law_shapes", "_law_way"] spTot := by
  have G_law_line_cost : FnOk P w K mg base CX0 3 T.a_law_line_cost T.d_law_line_cost ["_law_measure_here", "_law_ladder", "_law_shapes", "_law_start", "_law_end"] spLC := ok_lc T
  refine T.D_law_total.F.ok sc_law_total (fun vs H Q E h => ?_) (fun cdv A outer s H vs Q E hr h => ?_)
  · obtain ⟨_, _, _, _, _, _, _, _, _, rfl, _⟩ := h
    rfl
  · obtain ⟨sa, wy, us, ys, S, Z, M, L, ns, rfl, es, lv, ok, h16, ey, ly, wf, l91, hM, q⟩ := h
    have l1 := wf.pos
    have lyl := ly.1
    rw [List.length_map] at lyl
    refine ⟨_, (pss_cons (ps_set (i := 4) sc_law_total.nd rfl (.inl rfl) pe_int)
      (pss_cons (ps_for PassesOwn.never rfl (pi_range1 (by rfl) T.n_range (pa_cons (pe_op op_sub (pe_callB call_len (by rfl) T.n_len PySem.boot_len (pa_cons (pv 3) pa_nil)) pe_int) pa_nil)) (pg_name (i := 5) sc_law_total.nd rfl (.inl rfl)) (pss_cons (ps_set (i := 6) sc_law_total.nd rfl (.inl rfl) (pe_call G_law_line_cost (hr.mono (by decide)) (by rfl) T.D_law_line_cost.G T.D_law_line_cost.F.kp T.D_law_line_cost.B .nil pass0 (pa_cons (pv 0) (pa_cons (pv 1) (pa_cons (pv 2) (pa_cons (pe_ix ix_seq (pv 3) (pv 5) (fun _ _ => rfl)) (pa_cons (pe_ix ix_seq (pv 3) (pe_op op_add (pv 5) pe_int) (fun _ _ => rfl)) pa_nil)))))))
      (pss_cons (ps_if (pt_cmpR op_isN (pv 6) pe_non (nomark _)) (pss_one (ps_ret pe_non)) pss_nil)
      (pss_one (ps_set (i := 4) sc_law_total.nd rfl (.inl rfl) (pe_op op_add (pv 4) (pv 6)))))))
      (pss_one (ps_ret (pv 4))))), ?_⟩
    refine ⟨_, rfl, _, ys.length, rfl, ey.len, _, _, rfl, rfl, ((ns.length - 1 : Nat) : Int), congrArg (fun z => [V.int z]) (by omega), by omega, by omega, ?_⟩
    rw [Int.toNat_natCast]
    refine for_it walk_range (fun u σ' H' => ∃ (x5 x6 : Option V), σ' = [some (nV M), some (nV L), some (.ref sa), some (.ref wy), some (nV (totN M L S Z ns u)), x5, x6] ∧ Same H H') ⟨none, none, rfl, Same.refl H⟩ (fun _ _ _ _ _ => trivial) ?_ ?_
    · rintro u x0 σ' Ha H3 hu ⟨x5, x6, rfl, k3⟩ ⟨rfl, hx⟩
      have hx : x0 = nV u := by rw [hx]; exact int0 u
      subst hx
      have hu1 : u + 1 < ns.length := by omega
      have g1 := getD_map (f := atQ S Z) (xs := ns) (d := 0) (show u < ns.length by omega)
      have g2 := getD_map (f := atQ S Z) (xs := ns) (d := 0) hu1
      obtain ⟨z1, e1, b1, rfl, eb1⟩ := ly.2 _ _ g1
      obtain ⟨z2, e2, b2, rfl, eb2⟩ := ly.2 _ _ g2
      have two := wf.two u hu1
      have fit := wf.fit u hu1
      have et : totN M L S Z ns (u + 1) = totN M L S Z ns u + cstN M L S Z ns u := rfl
      unfold cstN at et
      generalize atQ S Z (ns.getD u 0) = px at *
      generalize atQ S Z (ns.getD (u + 1) 0) = py at *
      have ey3 := ey.same k3
      refine ⟨_, rfl, _, rfl, _, rfl, _, rfl, _, rfl, ey3.rix (atI_nat e1) ⟨_, rfl, _, rfl, _, _, rfl, rfl, ey3.rix (i := ((u + 1 : Nat) : Int)) (atI_nat e2) ?_⟩⟩
      refine ⟨sa, b1, b2, us, S, Z, M, L, px.1, px.2, py.1, py.2, rfl, es.same k3, lv.mono fun _ _ z => ShV.kt z (same_tup k3), ok, h16, k3 _ _ eb1, k3 _ _ eb2, two.1, two.2.1, two.2.2, hM, fun H4 k4 => ?_⟩
      have fit : natW S Z px.1 px.2 (py.1, py.2) ≤ M := fit
      rw [if_pos fit]
      refine ⟨_, rfl, rfl, _, rfl, ?_⟩
      refine iteF ?_
      refine ⟨_, rfl, _, rfl, _, _, rfl, rfl, ?_⟩
      rw [et]
      exact ⟨_, _, rfl, k3.trans k4⟩
    · rintro σ' H3 ⟨x5, x6, rfl, k3⟩
      exact ⟨_, rfl, q H3 k3⟩
end
end Vf

set_option Elab.async false
set_option linter.all false
set_option maxRecDepth 100000
set_option maxHeartbeats 4000000
namespace Vf
open PySem PySem.Spec PyProof.Rows L2 TL LamX
theorem eqv_prs : ∀ rs : List (Nat × Nat), PyData.eqvAll (rs.map dPr) (rs.map dPr) = true
  | [] => rfl
  | r :: rs => by
    show (PyData.eqv (dPr r) (dPr r) && PyData.eqvAll (rs.map dPr) (rs.map dPr)) = true
    rw [eqv_pr_self, eqv_prs rs]; rfl
theorem eqv_lprs (rs : List (Nat × Nat)) : PyData.eqv (.list (rs.map dPr)) (.list (rs.map dPr)) = true := by
  show PyData.eqvAll (rs.map dPr) (rs.map dPr) = true
  exact eqv_prs rs
theorem lay_pr (p : Nat × Nat) : (dPr p).canLay0 = true := by
  simp [dPr, PyData.canLay0, PyData.canLayAll0]
theorem lay_prs : ∀ ps : List (Nat × Nat), PyData.canLayAll0 (ps.map dPr) = true
  | [] => rfl
  | p :: ps => by
    simp only [List.map_cons, PyData.canLayAll0, Bool.and_eq_true]
    exact ⟨lay_pr p, lay_prs ps⟩
theorem lprs_shaped (ps : List (Nat × Nat)) : SeqAt.shaped (.list (ps.map dPr)) = true :=
  Bool.and_eq_true_iff.mpr ⟨by simp only [PyData.canLay0]; exact lay_prs ps, decide_eq_true (by have := dep_prs ps; simp only [PyData.depth]; omega)⟩
theorem dw_rd {S : Sty} {Y : List (List Nat × Nat)} (st : StyOk S) (q1 : ∀ y ∈ Y, y.2 ≤ 1) (dw : DwOk (wdsY Y)) : RdOk S Y := ⟨st, q1, dw.wd, dw.ne, fun z hz c hc => alp_own c (dw.al z hz c hc), by have := dw.ln; rw [wdsY_len] at this; omega⟩
theorem way_first {M L : Nat} {S : Sty} {Z : List (List Nat)} {f g : Nat → Option Nat} (B : Bd (· ∈ netQ M L S Z) f g) {y : Nat} (e : f ((posL S Z).length - 1) = some y) : (Rw g ((posL S Z).length - 1)).reverse.getD 0 0 = 0 := by
  obtain ⟨xs, ex⟩ := rw_first B (B.dn fun a h => (netQ_up a h).1) _ _ (Nat.le_refl _) y e
  rw [ex, List.reverse_append]; rfl
section
variable {P : Program} {w : World} {K : PySem.W.Frag} {mg : Str → Option Value} {base : Heap}
def spHolds (Pt : Addr) : Sp := fun vs H Q _ => ∃ (v : V) (wa : Addr) (ws : List V) (S : Sty) (Y : List (List Nat × Nat)) (M L : Nat), vs = [v, nV M, .ref wa] ∧ StyL H v S L ∧ StyOk S ∧ H wa = some (.tup ws) ∧ LV (WkV H) ws Y ∧ (∀ y ∈ Y, y.2 ≤ 1) ∧ DwOk (wdsY Y) ∧ M ≤ 20000 ∧ Tabs [(Pt, lamQ)] H ∧ ∀ H', ExtN H H' → Tabs [(Pt, lamQ)] H' → Q (.bl true) H'
theorem ok_holds (T : Txt K mg) {c Pt : Addr} (hcode : T.d_least_lines.code = .ref c) (TB : TabB base mg c Pt) : FnOk P w K mg base CX0 11 T.a_law_holds T.d_law_holds ["_law_style", "_law_measure_here", "_law_words"] (spHolds Pt) := by
  have G_law_shape : FnOk P w K mg base CX0 2 T.a_law_shape T.d_law_shape ["_law_style", "_law_word"] spLawShape := ok_law_shape T
  have G_law_lines : FnOk P w K mg base CX0 4 T.a_law_lines T.d_law_lines ["_law_measure_here", "_law_ladder", "_law_shapes"] spLLines := ok_llines T
  have G_law_asked : FnOk P w K mg base CX0 10 T.a_law_asked T.d_law_asked ["_law_style", "_law_measure_here", "_law_words", "_law_close"] (spAsked Pt) := ok_asked T hcode TB
  have G_law_way_told : FnOk P w K mg base CX0 5 T.a_law_way_told T.d_law_way_told ["_law_style", "_law_measure_here", "_law_words", "_law_close", "_law_strips"] spWT := ok_wt T
  have G_law_total : FnOk P w K mg base CX0 4 T.a_law_total T.d_law_total ["_law_measure_here", "_law_ladder", "_law_shapes", "_law_way"] spTot := ok_tot T
  refine T.D_law_holds.F.ok sc_law_holds (fun vs H Q E h => ?_) (fun cdv A outer s H vs Q E hr h => ?_)
  · obtain ⟨_, _, _, _, _, _, _, rfl, _⟩ := h
    rfl
  · obtain ⟨v, wa, ws, S, Y, M, L, rfl, sl, st, ew, lw, hq, dw, hM, hT, q⟩ := h
    have ok := dw.wds st
    have wd := dw.wd
    have l91 := posL_dw (S := S) dw
    obtain ⟨f, g, bd⟩ := netQ_bd (M := M) (L := L) (S := S) (Z := wdsY Y)
    have wf := way_of bd
    have lns := wf.len
    have rd := dw_rd st hq dw
    have l40 := ok.ln
    have hh := wdsY_len Y
    rw [wdsY_len] at l40
    have lws := lw.1
    obtain ⟨va, vp, wv, cv, bv, ps, rfl, ea, _, _, _, ep⟩ := id sl
    refine ⟨_, (pss_cons (ps_setLc (i := 3) (own := [("_law_word", 8), ("_law_kind", 9)]) (g := (gTup K 2 (gCons (gName 8) (gCons (gName 9) gNil)))) (tt := tYes) rfl sc_law_holds.nd rfl rfl (sw_true rfl rfl rfl (by decide +kernel)) (pi_tup (pv 2)) (blkOk_by (own := [("_law_word", 8), ("_law_kind", 9)]) (N := ["_law_style", "_law_measure_here", "_law_words", "_law_shapes", "_law_least", "_law_loose", "_law_tight", "_law_way", "_law_word", "_law_kind"]) (sc := (defScope s_law_holds)) (by decide +kernel)) (fun _ _ _ _ _ => (pg_tup (by rfl) (pgs_cons (pg_name (i := 8) sc_law_holds.nd rfl (.inl rfl)) (pgs_cons (pg_name (i := 9) sc_law_holds.nd rfl (.inl rfl)) pgs_nil)))) (fun _ _ _ _ _ => pts_nil) (fun _ _ _ _ _ => (pe_call G_law_shape (hr.mono (by decide)) (by rfl) T.D_law_shape.G T.D_law_shape.F.kp T.D_law_shape.B .nil pass0 (pa_cons (pv 0) (pa_cons (pv 8) pa_nil)))))
      (pss_cons (ps_set (i := 4) sc_law_holds.nd rfl (.inl rfl) (pe_call G_law_lines (hr.mono (by decide)) (by rfl) T.D_law_lines.G T.D_law_lines.F.kp T.D_law_lines.B .nil pass0 (pa_cons (pv 1) (pa_cons (pe_ix ix_tup (pe_ix ix_tup (pv 0) pe_int (fun _ _ => rfl)) pe_int (fun _ _ => rfl)) (pa_cons (pv 3) pa_nil)))))
      (pss_cons (ps_set (i := 5) sc_law_holds.nd rfl (.inl rfl) (pe_call G_law_asked (hr.mono (by decide)) (by rfl) T.D_law_asked.G T.D_law_asked.F.kp T.D_law_asked.B .nil pass0 (pa_cons (pv 0) (pa_cons (pv 1) (pa_cons (pv 2) (pa_cons pe_bl pa_nil))))))
      (pss_cons (ps_set (i := 6) sc_law_holds.nd rfl (.inl rfl) (pe_call G_law_asked (hr.mono (by decide)) (by rfl) T.D_law_asked.G T.D_law_asked.F.kp T.D_law_asked.B .nil pass0 (pa_cons (pv 0) (pa_cons (pv 1) (pa_cons (pv 2) (pa_cons pe_bl pa_nil))))))
      (pss_cons (ps_if (pt_cmpR op_isN (pv 4) pe_non (nomark _)) (pss_one (ps_ret (pe_and (pe_cmpR op_eq (pv 5) pe_str (nomark _)) (pe_one (pe_cmpR op_eq (pv 6) pe_str (nomark _)))))) pss_nil)
      (pss_cons (ps_set (i := 7) sc_law_holds.nd rfl (.inl rfl) (pe_call G_law_way_told (hr.mono (by decide)) (by rfl) T.D_law_way_told.G T.D_law_way_told.F.kp T.D_law_way_told.B .nil pass0 (pa_cons (pv 0) (pa_cons (pv 1) (pa_cons (pv 2) (pa_cons pe_bl (pa_cons (pv 5) pa_nil)))))))
      (pss_cons (ps_if (PW.pt (pw_or (pt_cmpR op_isN (pv 7) pe_non (nomark _)) (pw_or1 (pt_cmpR (op_neD (Room.units hr)) (pv 7) (pe_call G_law_way_told (hr.mono (by decide)) (by rfl) T.D_law_way_told.G T.D_law_way_told.F.kp T.D_law_way_told.B .nil pass0 (pa_cons (pv 0) (pa_cons (pv 1) (pa_cons (pv 2) (pa_cons pe_bl (pa_cons (pv 6) pa_nil)))))) (nomark _))))) (pss_one (ps_ret pe_bl)) pss_nil)
      (pss_one (ps_ret (pe_cmpR op_eq (pe_call G_law_total (hr.mono (by decide)) (by rfl) T.D_law_total.G T.D_law_total.F.kp T.D_law_total.B .nil pass0 (pa_cons (pv 1) (pa_cons (pe_ix ix_tup (pe_ix ix_tup (pv 0) pe_int (fun _ _ => rfl)) pe_int (fun _ _ => rfl)) (pa_cons (pv 3) (pa_cons (pv 7) pa_nil))))) (pe_call G_law_total (hr.mono (by decide)) (by rfl) T.D_law_total.G T.D_law_total.F.kp T.D_law_total.B .nil pass0 (pa_cons (pv 1) (pa_cons (pe_ix ix_tup (pe_ix ix_tup (pv 0) pe_int (fun _ _ => rfl)) pe_int (fun _ _ => rfl)) (pa_cons (pv 3) (pa_cons (pv 4) pa_nil))))) (nomark _))))))))))), ?_⟩
    refine ⟨_, rfl, wa, rfl, ⟨_, SqT.of ew⟩, fun D nD => ?_⟩
    refine lc_it (walk_tup (K := K) (a := wa) (xs := ws)) (fun t H' => ∃ ts, H' D = some (.lst ts) ∧ LV (ShV S H') ts ((wdsY Y).take t) ∧ Same H H') ⟨[], upd_same, LV.nil, same_upd (Same.refl H) nD⟩ ?_ ?_ ?_
    · rintro t H' _ ⟨_, _, _, k⟩
      exact SqT.of (k _ _ ew)
    · rintro t x Ha H3 ht ⟨ts, e3, lt, k3⟩ ⟨rfl, hx⟩
      have ht : t < Y.length := by rw [← lws]; exact ht
      have htz : t < (wdsY Y).length := by rw [wdsY_len]; exact ht
      obtain ⟨yy, ey, b, rfl, eb⟩ := lw.at hx
      have ey := Option.some.inj ((y_at ht).symm.trans ey)
      subst ey
      refine ⟨b, _, rfl, SqT.of (k3 _ _ eb), rfl, _, _, rfl, _, _, rfl, rfl, by kernel_rfl, ?_⟩
      refine ⟨_, by kernel_rfl, _, by kernel_rfl, .ref va, S, wz (wdsY Y) t, rfl, sl.sty.mono (same_tup k3), ok.st, wd _ (wz_mem htz), fun u H4 k4 sh => ?_⟩
      have e4 := k4 _ _ e3
      have kt := kt_mut (zs := ts ++ [u]) e4
      have ltl := lt.1
      rw [List.length_take] at ltl
      refine ⟨ts, e4, szN (by omega), ts ++ [u], upd_same, ?_, same_mut (k3.trans k4) nD⟩
      rw [show (wdsY Y).take (t + 1) = (wdsY Y).take t ++ [wz (wdsY Y) t] by rw [List.take_succ, wz_at htz]; rfl]
      exact LV.snoc (lt.mono fun _ _ z => ShV.kt z fun a xs e => kt _ _ (k4 _ _ e)) (ShV.kt sh kt)
    rintro H1 ⟨us, es, lv, k1⟩
    rw [show ws.length = (wdsY Y).length by omega, List.take_length] at lv
    refine ⟨_, rfl, _, rfl, va, _, 6, _, rfl, rfl, SqT.of (k1 _ _ ea), rfl, vp, _, 0, _, rfl, rfl, SqT.of (k1 _ _ ep), atI_nat (j := 0) rfl, _, rfl, D, us, S, wdsY Y, M, L, f, g, rfl, .inr es, lv, ok, wd, l91, by omega, bd, fun H2 x k2 hd => ?_⟩
    have k12 := k1.trans k2
    refine ⟨_, rfl, _, rfl, _, rfl, .ref va, wa, ws, S, Y, M, L, true, f, g, rfl, sl.kt (same_tup k12), k12 _ _ ew, lw.mono fun _ _ z => z.kt (same_tup k12), ok, wd, l91, hM, hT.ext k12, bd, fun H3 xl x3 T3 a3 => ?_⟩
    have t3 : ∀ a xs, H a = some (.tup xs) → H3 a = some (.tup xs) := fun a xs e => exT' x3 _ _ (k12 _ _ e)
    refine ⟨_, rfl, _, rfl, _, rfl, .ref va, wa, ws, S, Y, M, L, false, f, g, rfl, sl.kt t3, t3 _ _ ew, lw.mono fun _ _ z => z.kt t3, ok, wd, l91, hM, T3, bd, fun H4 xt x4 T4 a4 => ?_⟩
    have x24 := x3.trans x4
    have x14 := (ExtN.of k12).trans x24
    have t4 := exT' x14
    have ea4 := t4 _ _ ea
    have ep4 := t4 _ _ ep
    have a3 := a3.kt (exT' x4)
    have es4 := exL' ((ExtN.of k2).trans x24) es
    have lv4 := lv.mono fun _ _ z => ShV.kt z (exT' ((ExtN.of k2).trans x24))
    unfold DueW at hd
    unfold AskW at a3 a4
    cases hf : f ((posL S (wdsY Y)).length - 1) with
    | none =>
      rw [hf] at hd a3 a4
      have hd : x = .non := hd
      have a3 : xl = .str "wide" := a3
      have a4 : xt = .str "wide" := a4
      subst hd a3 a4
      refine ⟨_, rfl, rfl, _, rfl, ?_⟩
      exact ⟨_, rfl, rfl, true, rfl, _, rfl, rfl, q H4 x14 T4⟩
    | some y0 =>
      rw [hf] at hd a3 a4
      obtain ⟨pw, rfl, wv2⟩ := hd
      have h0 := way_first bd hf
      generalize (Rw g ((posL S (wdsY Y)).length - 1)).reverse = ns at wf wv2 h0 a3 a4 lns
      refine ⟨_, rfl, rfl, _, rfl, ?_⟩
      refine iteF ?_
      refine ⟨_, rfl, _, rfl, _, rfl, _, rfl, .ref va, wa, ws, S, Y, M, true, ns, xl, rfl, sl.sty.mono t4, t4 _ _ ew, lw.mono fun _ _ z => z.kt t4, rd, wf, h0, by omega, a3, hM, fun H5 W5 us5 k5 eW5 lu5 => ?_⟩
      have t5 : ∀ a xs, H a = some (.tup xs) → H5 a = some (.tup xs) := fun a xs e => k5 _ _ (t4 _ _ e)
      dsimp only [tSeq, tNext, gName, tAsg]
      refine ifs_orH (fun R h => ⟨_, rfl, rfl, _, rfl, h⟩) (fun R h => ?_) (fun H6 k6 => ?_)
      · refine ⟨_, rfl, _, rfl, _, rfl, _, rfl, _, rfl, .ref va, wa, ws, S, Y, M, false, ns, xt, rfl, sl.sty.mono t5, t5 _ _ ew, lw.mono fun _ _ z => z.kt t5, rd, wf, h0, by omega, a4.kt (same_tup k5), hM, fun H6 W6 us6 k6 eW6 lu6 => ?_⟩
        refine ⟨_, _, .lst (SqL.of (k6 _ _ eW5)) (dp_prs lu5.1 fun i r hr => ?_), .lst (SqL.of eW6) (dp_prs lu6.1 fun i r hr => ?_), ?_, ?_, false, ?_, h H6 k6⟩
        · obtain ⟨x, ex, fx⟩ := lu5.2 i r hr
          exact ⟨x, ex, fx.kt (same_tup k6)⟩
        · obtain ⟨x, ex, fx⟩ := lu6.2 i r hr
          exact ⟨x, ex, fx⟩
        · exact lprs_shaped _
        · exact lprs_shaped _
        · rw [eqv_lprs]; rfl
      have k56 := k5.trans k6
      have t6 : ∀ a xs, H a = some (.tup xs) → H6 a = some (.tup xs) := fun a xs e => k56 _ _ (t4 _ _ e)
      have lv6 := lv4.mono fun _ _ z => ShV.kt z (same_tup k56)
      refine ⟨_, rfl, _, rfl, va, _, 6, _, rfl, rfl, SqT.of (t6 _ _ ea), rfl, vp, _, 0, _, rfl, rfl, SqT.of (t6 _ _ ep), atI_nat (j := 0) rfl, _, rfl, _, rfl, D, W5, us, us5, S, wdsY Y, M, L, ns, rfl, .inr (k56 _ _ es4), lv6, ok, wd, .inr (k6 _ _ eW5), lu5.mono fun _ _ z => z.kt (same_tup k6), wf, by omega, by omega, fun H7 k7 => ?_⟩
      have k57 := k56.trans k7
      obtain ⟨pv, epl, lp⟩ := id wv2
      have x27 := x24.trans (ExtN.of k57)
      have t27 := exT' x27
      have t7 : ∀ a xs, H a = some (.tup xs) → H7 a = some (.tup xs) := fun a xs e => k57 _ _ (t4 _ _ e)
      refine ⟨_, rfl, _, rfl, va, _, 6, _, rfl, rfl, SqT.of (t7 _ _ ea), rfl, vp, _, 0, _, rfl, rfl, SqT.of (t7 _ _ ep), atI_nat (j := 0) rfl, _, rfl, _, rfl, D, pw, us, pv, S, wdsY Y, M, L, ns, rfl, .inr (k57 _ _ es4), lv4.mono fun _ _ z => ShV.kt z (same_tup k57), ok, wd, .inl (t27 _ _ epl), lp.mono fun _ _ z => z.kt t27, wf, by omega, by omega, fun H8 k8 => ?_⟩
      refine ⟨rfl, ?_⟩
      rw [decide_eq_true rfl]
      have k58 := k57.trans k8
      exact q H8 (x14.trans (ExtN.of k58)) (T4.ext k58)
end
end Vf

set_option Elab.async false
set_option linter.all false
set_option maxRecDepth 100000
set_option maxHeartbeats 4000000
namespace Vf
open PySem PySem.Spec PyProof.Rows L2 TL LamX
theorem tabs_kp {T : List (Addr × Str)} {d l : Addr} {H H' : Hp} (t : Tabs T H) (D : DI d l H) (k : Kp d H H') : Tabs T H' := fun p hp => by
  obtain ⟨_, _, i, b, s, c, _, h2⟩ := D
  obtain ⟨ps, h1, h3, h4⟩ := t p hp
  refine ⟨ps, k _ _ (fun z => by rw [z, h2] at h1; cases h1) h1, h3, fun pos cv hc => ?_⟩
  obtain ⟨c0, e1, e2⟩ := h4 pos cv hc
  exact ⟨c0, e1, k _ _ (fun z => by rw [z, h2] at e2; cases e2) e2⟩
theorem styL_of {H : Hp} {v : V} {S : Sty} (h : StyV H v S) (k : PrS H v) : ∃ L, StyL H v S L := by
  obtain ⟨a, wv, cv, bv, pv, rfl, e1, r1, r2, r3⟩ := h
  obtain ⟨a', p, x1, x2, x3, x4, x5, x6, ps, ea, e2, e3, l5, _⟩ := k
  have ea : a = a' := by injection ea
  subst ea
  rw [e1] at e2
  have e2 := HO.tup.inj (Option.some.inj e2)
  injection e2 with _ e2
  injection e2 with _ e2
  injection e2 with _ e2
  injection e2 with _ e2
  injection e2 with _ e2
  injection e2 with _ e2
  injection e2 with e2 _
  subst e2
  cases ps with
  | nil => cases l5
  | cons L r => exact ⟨L, a, p, wv, cv, bv, _, rfl, e1, r1, r2, r3, e3⟩
section
variable {P : Program} {w : World} {K : PySem.W.Frag} {mg : Str → Option Value} {base : Heap}
def spLaw (K : PySem.W.Frag) (Pt : Addr) : Sp := fun vs H Q _ => ∃ (a : Addr) (ns : List Int), vs = [.ref a] ∧ SqL K H a (ns.map V.int) ∧ ns.length ≤ 63 ∧ Tabs [(Pt, lamQ)] H ∧ ∀ H', Q (.bl true) H'
theorem ok_law (T : Txt K mg) {c Pt : Addr} (hcode : T.d_least_lines.code = .ref c) (TB : TabB base mg c Pt) : FnOk P w K mg base CX0 12 T.a_law T.d_law ["_law_script"] (spLaw K Pt) := by
  have G_law_begin : FnOk P w K mg base CX0 1 T.a_law_begin T.d_law_begin ["_law_script"] (spBegin K) := ok_begin T
  have G_law_draw : FnOk P w K mg base CX0 1 T.a_law_draw T.d_law_draw ["_law_d", "_law_many"] spDraw := ok_draw T
  have G_law_pick : FnOk P w K mg base CX0 2 T.a_law_pick T.d_law_pick ["_law_d", "_law_row"] (spPick K) := ok_pick T
  have G_law_drawn_words : FnOk P w K mg base CX0 3 T.a_law_drawn_words T.d_law_drawn_words ["_law_d"] spDw := ok_dw T
  have G_law_style_for : FnOk P w K mg base CX0 3 T.a_law_style_for T.d_law_style_for ["_law_d", "_law_words"] spStyleN := ok_style_n T
  have G_law_shape : FnOk P w K mg base CX0 2 T.a_law_shape T.d_law_shape ["_law_style", "_law_word"] spLawShape := ok_law_shape T
  have G_law_measure : FnOk P w K mg base CX0 3 T.a_law_measure T.d_law_measure ["_law_d", "_law_shapes"] spMeas := ok_meas T
  have G_law_holds : FnOk P w K mg base CX0 11 T.a_law_holds T.d_law_holds ["_law_style", "_law_measure_here", "_law_words"] (spHolds Pt) := ok_holds T hcode TB
  refine T.D_law.F.ok sc_law (fun vs H Q E h => ?_) (fun cdv A outer s H vs Q E hr h => ?_)
  · obtain ⟨a, ns, rfl, _⟩ := h
    rfl
  · obtain ⟨a, ns, rfl, hS, hl, hT, q⟩ := h
    refine ⟨_, (pss_cons (ps_set (i := 1) sc_law.nd rfl (.inr rfl) (pe_call G_law_begin (hr.mono (by decide)) (by rfl) T.D_law_begin.G T.D_law_begin.F.kp T.D_law_begin.B .nil pass0 (pa_cons (pv 0) pa_nil)))
      (pss_cons (ps_set (i := 2) sc_law.nd rfl (.inl rfl) (pe_call G_law_drawn_words (hr.mono (by decide)) (by rfl) T.D_law_drawn_words.G T.D_law_drawn_words.F.kp T.D_law_drawn_words.B .nil pass0 (pa_cons (pv 1) pa_nil)))
      (pss_cons (ps_set (i := 3) sc_law.nd rfl (.inr rfl) (pe_call G_law_style_for (hr.mono (by decide)) (by rfl) T.D_law_style_for.G T.D_law_style_for.F.kp T.D_law_style_for.B .nil pass0 (pa_cons (pv 1) (pa_cons (pv 2) pa_nil))))
      (pss_cons (ps_set (i := 4) sc_law.nd rfl (.inl rfl) (pe_call G_law_measure (hr.mono (by decide)) (by rfl) T.D_law_measure.G T.D_law_measure.F.kp T.D_law_measure.B .nil pass0 (pa_cons (pv 1) (pa_cons (pe_lc (own := [("_law_word", 8)]) (g := gName 8) (tt := tYes) rfl sc_law.nd (pi_list (pv 2)) (blkOk_by (own := [("_law_word", 8)]) (N := ["_law_script", "_law_d", "_law_names", "_law_style", "_law_measure_here", "_law_share", "_law_words", "_law_room", "_law_word"]) (sc := (defScope s_law)) (by decide +kernel)) (fun _ _ _ _ _ => (pg_name (i := 8) sc_law.nd rfl (.inl rfl))) (fun _ _ _ _ _ => pts_nil) (fun _ _ _ _ _ => (pe_call G_law_shape (hr.mono (by decide)) (by rfl) T.D_law_shape.G T.D_law_shape.F.kp T.D_law_shape.B .nil pass0 (pa_cons (pv 3) (pa_cons (pv 8) pa_nil))))) pa_nil))))
      (pss_cons (ps_set (i := 5) sc_law.nd rfl (.inr rfl) (pe_call G_law_pick (hr.mono (by decide)) (by rfl) T.D_law_pick.G T.D_law_pick.F.kp T.D_law_pick.B .nil pass0 (pa_cons (pv 1) (pa_cons (pe_lst (pa_cons pe_int (pa_cons pe_int (pa_cons pe_int (pa_cons pe_int pa_nil))))) pa_nil))))
      (pss_cons (ps_set (i := 6) sc_law.nd rfl (.inl rfl) (pe_callTy call_tuple_of (by rfl) T.n_tuple (by decide +kernel) (pa_cons (pe_lc (own := [("_law_word", 8)]) (g := gName 8) (tt := tYes) rfl sc_law.nd (pi_list (pv 2)) (blkOk_by (own := [("_law_word", 8)]) (N := ["_law_script", "_law_d", "_law_names", "_law_style", "_law_measure_here", "_law_share", "_law_words", "_law_room", "_law_word"]) (sc := (defScope s_law)) (by decide +kernel)) (fun _ _ _ _ _ => (pg_name (i := 8) sc_law.nd rfl (.inl rfl))) (fun _ _ _ _ _ => pts_nil) (fun _ _ _ _ _ => (pe_tup (pa_cons (pv 8) (pa_cons (pe_ifExp (pt_cmpR op_eq (pe_call G_law_draw (hr.mono (by decide)) (by rfl) T.D_law_draw.G T.D_law_draw.F.kp T.D_law_draw.B .nil pass0 (pa_cons (pv 1) (pa_cons (pv 5) pa_nil))) pe_int (nomark _)) pe_int pe_int) pa_nil))))) pa_nil)))
      (pss_cons (ps_for PassesOwn.never rfl (pi_tup (pe_tup (pa_cons (pv 4) (pa_cons (pe_op op_add (pe_op op_add (pv 4) pe_int) (pe_call G_law_draw (hr.mono (by decide)) (by rfl) T.D_law_draw.G T.D_law_draw.F.kp T.D_law_draw.B .nil pass0 (pa_cons (pv 1) (pa_cons pe_int pa_nil)))) (pa_cons (pv 4) pa_nil))))) (pg_name (i := 7) sc_law.nd rfl (.inl rfl)) (pss_one (ps_if (pt_not (pt_val (pe_call G_law_holds (hr.mono (by decide)) (by rfl) T.D_law_holds.G T.D_law_holds.F.kp T.D_law_holds.B .nil pass0 (pa_cons (pv 3) (pa_cons (pv 7) (pa_cons (pv 6) pa_nil)))))) (pss_one (ps_ret pe_bl)) pss_nil)))
      (pss_one (ps_ret pe_bl))))))))), ?_⟩
    refine ⟨_, rfl, a, ns, rfl, hS, hl, fun H1 d l s1 D1 => ?_⟩
    refine ⟨_, rfl, d, l, rfl, D1, fun H2 W Z k2 D2 nW eW dw => ?_⟩
    have dW := D1.nd nW
    refine ⟨_, rfl, _, rfl, d, l, W, Z, rfl, D2, dW.1, eW, dw, fun H3 v S k3 D3 sv pv st => ?_⟩
    have eW3 := k3 _ _ dW.1 eW
    have T3 : Tabs [(Pt, lamQ)] H3 := tabs_kp (tabs_kp (hT.ext s1) D1 k2) D2 k3
    obtain ⟨L, sl⟩ := styL_of sv pv
    have wok := dw.wds st
    have l40 := wok.ln
    refine ⟨_, rfl, _, rfl, W, rfl, ⟨_, SqL.of eW3⟩, fun Dd n1 => ?_⟩
    refine lc_it (walk_list (K := K) (a := W) (xs := Z.map sV)) (fun t H' => ∃ ts, H' Dd = some (.lst ts) ∧ LV (ShV S H') ts (Z.take t) ∧ Same H3 H') ⟨[], upd_same, LV.nil, same_upd (Same.refl H3) n1⟩ ?_ ?_ ?_
    · rintro t H' _ ⟨_, _, _, k⟩
      exact SqL.of (k _ _ eW3)
    · rintro t x Ha H4 ht ⟨ts, e4, lt, k4⟩ ⟨rfl, hx⟩
      rw [List.length_map] at ht
      rw [List.getElem?_map, wz_at ht] at hx
      have hx : sV (wz Z t) = x := Option.some.inj hx
      subst hx
      refine ⟨by kernel_rfl, _, by kernel_rfl, _, by kernel_rfl, v, S, wz Z t, rfl, sv.mono (same_tup k4), st, dw.wd _ (wz_mem ht), fun x H5 k5 tv => ?_⟩
      have e5 := k5 _ _ e4
      have ltl := lt.1
      rw [List.length_take] at ltl
      refine ⟨ts, e5, szN (by omega), ts ++ [x], upd_same, ?_, same_mut (k4.trans k5) n1⟩
      rw [show Z.take (t + 1) = Z.take t ++ [wz Z t] by rw [List.take_succ, wz_at ht]; rfl]
      exact LV.snoc (lt.mono fun _ _ z => ShV.kt z fun a xs e => kt_mut e5 _ _ (k5 _ _ e)) (ShV.kt tv (kt_mut e5))
    rintro H4 ⟨us, es, lv, k4⟩
    rw [List.length_map, List.take_length] at lv
    have D4 := D3.keep k4
    refine ⟨d, l, Dd, us, S, Z, rfl, D4, (D3.nd n1).1, es, lv, wok, dw.wd, dw.l0, fun H5 M k5 D5 hM => ?_⟩
    have T5 := tabs_kp (T3.ext k4) D4 k5
    have eW5 := k5 _ _ dW.1 (k4 _ _ eW3)
    have sl5 := (sl.kt (same_tup k4)).kt (kpTup D4 k5)
    clear es lv k4 sv pv
    refine ⟨_, rfl, by show 4 ≤ sizeLine; decide, fun p np => ?_⟩
    have np5 := D5.nd np
    refine ⟨d, l, _, _, rfl, D5.new np, .inl ⟨p, rfl, np5.1, SqL.of upd_same⟩, by simp, by simp, fun H6 sh k6 D6 hs => ?_⟩
    obtain ⟨sn, rfl, hsn⟩ : ∃ n : Int, sh = V.int n ∧ n ≤ 10 := by
      simp only [List.mem_cons, List.not_mem_nil, or_false] at hs
      rcases hs with rfl | rfl | rfl | rfl <;> exact ⟨_, rfl, by decide⟩
    have K56 : Kp d H5 H6 := (Kp.refl d _).new np |>.trans k6
    have eW6 := K56 _ _ dW.1 eW5
    have sl6 := sl5.kt (kpTup D5 K56)
    refine ⟨_, rfl, W, rfl, ⟨_, SqL.of eW6⟩, fun C nC => ?_⟩
    have dC := D6.nd nC
    refine lc_it (walk_list (K := K) (a := W) (xs := Z.map sV)) (fun t H' => ∃ (ts : List V) (Y : List (List Nat × Nat)), H' C = some (.lst ts) ∧ LV (WkV H') ts Y ∧ wdsY Y = Z.take t ∧ (∀ y ∈ Y, y.2 ≤ 1) ∧ Kp d H6 H' ∧ DI d l H' ∧ (∀ a xs, H6 a = some (.tup xs) → H' a = some (.tup xs)) ∧ H' W = some (.lst (Z.map sV))) ⟨[], [], upd_same, LV.nil, rfl, (fun _ h => nomatch h), (Kp.refl d _).new nC, D6.new nC, fun a xs e => kt_new nC _ _ e, by rw [upd_ne (ne_of_none eW6 nC)]; exact eW6⟩ ?_ ?_ ?_
    · rintro t H' _ ⟨_, _, _, _, _, _, _, _, _, e⟩
      exact SqL.of e
    · rintro t x Ha H7 ht ⟨ts, Y, e7, lt, hY, hq, k7, D7, t7, eW7⟩ ⟨rfl, hx⟩
      rw [List.length_map] at ht
      rw [List.getElem?_map, wz_at ht] at hx
      have hx : sV (wz Z t) = x := Option.some.inj hx
      subst hx
      clear hx
      have wtz := wz_at ht
      have nWC := ne_of_none eW6 nC
      have l30 := dw.ln
      have ltl := lt.1
      have hYl : Y.length = t := by
        have h := congrArg List.length hY
        rw [wdsY_len, List.length_take] at h
        omega
      refine ⟨by kernel_rfl, sV (wz Z t), by kernel_rfl, .ref d, by kernel_rfl, .int sn, by kernel_rfl, d, l, sn, rfl, D7, by omega, fun H8 r k8 D8 _ _ => ?_⟩
      have e8 := k8 _ _ dC.1 e7
      have t8 := kpTup D7 k8
      have fin : ∀ (qv : Nat), qv ≤ 1 → ∀ b, H8 b = none → ∃ acc, upd H8 b (.tup [sV (wz Z t), nV qv]) C = some (.lst acc) ∧ acc.length < sizeLine ∧ ∃ (ts : List V) (Y : List (List Nat × Nat)), upd (upd H8 b (.tup [sV (wz Z t), nV qv])) C (.lst (acc ++ [V.ref b])) C = some (.lst ts) ∧ LV (WkV (upd (upd H8 b (.tup [sV (wz Z t), nV qv])) C (.lst (acc ++ [V.ref b])))) ts Y ∧ wdsY Y = Z.take (t + 1) ∧ (∀ y ∈ Y, y.2 ≤ 1) ∧ Kp d H6 (upd (upd H8 b (.tup [sV (wz Z t), nV qv])) C (.lst (acc ++ [V.ref b]))) ∧ DI d l (upd (upd H8 b (.tup [sV (wz Z t), nV qv])) C (.lst (acc ++ [V.ref b]))) ∧ (∀ a xs, H6 a = some (.tup xs) → upd (upd H8 b (.tup [sV (wz Z t), nV qv])) C (.lst (acc ++ [V.ref b])) a = some (.tup xs)) ∧ upd (upd H8 b (.tup [sV (wz Z t), nV qv])) C (.lst (acc ++ [V.ref b])) W = some (.lst (Z.map sV)) := fun qv hqv b nb => by
        have k9 := same_upd (o := .tup [sV (wz Z t), nV qv]) (Same.refl H8) nb
        have eb : upd H8 b (.tup [sV (wz Z t), nV qv]) b = some (.tup [sV (wz Z t), nV qv]) := upd_same
        have D9 : DI d l (upd H8 b (.tup [sV (wz Z t), nV qv])) := D8.keep k9
        generalize upd H8 b (.tup [sV (wz Z t), nV qv]) = H9 at k9 eb D9
        have e9 := k9 _ _ e8
        have kt := kt_mut (zs := ts ++ [V.ref b]) e9
        refine ⟨ts, e9, szN (by omega), ts ++ [.ref b], Y ++ [(wz Z t, qv)], upd_same, LV.snoc (lt.mono fun _ _ z => z.kt fun a xs e => kt _ _ (k9 _ _ (t8 _ _ e))) ⟨b, rfl, kt _ _ eb⟩, ?_, ?_, ?_, D9.at dC.1 dC.2, fun a xs e => kt _ _ (k9 _ _ (t8 _ _ (t7 _ _ e))), ?_⟩
        · unfold wdsY
          rw [List.map_append]
          have hY : List.map (·.1) Y = Z.take t := hY
          rw [hY, List.take_succ, wtz]; rfl
        · intro y hy
          rcases List.mem_append.mp hy with h | h
          · exact hq y h
          · rw [List.mem_singleton.mp h]; exact hqv
        · have K89 : Kp d H8 H9 := fun b o _ e => k9 b o e
          exact (k7.trans (k8.trans K89)).mut nC
        · rw [upd_ne nWC]; exact k9 _ _ (k8 _ _ dW.1 eW7)
      refine ⟨rfl, _, rfl, ?_⟩
      refine ifD (fun c => ?_) (fun c => ?_)
      · exact ⟨by show 2 ≤ sizeLine; decide, fin 1 (Nat.le_refl _)⟩
      · exact ⟨by show 2 ≤ sizeLine; decide, fin 0 (Nat.zero_le _)⟩
    · rintro H7 ⟨ts, Y, e7, lt, hY, hq, k7, D7, t7, eW7⟩
      rw [List.length_map, List.take_length] at hY
      refine ⟨C, ts, rfl, .inl ⟨SqL.of e7, fun wa nwa => ?_⟩⟩
      have k8 := same_upd (o := .tup ts) (Same.refl H7) nwa
      have ewa : upd H7 wa (.tup ts) wa = some (.tup ts) := upd_same
      generalize upd H7 wa (.tup ts) = H8 at k8 ewa
      subst hY
      have K67 : Kp d H6 H8 := fun b o hb e => k8 b o (k7 b o hb e)
      have T8 := tabs_kp (tabs_kp T5 D5 K56) D6 K67
      have D8 := D7.keep k8
      have sl8 := (sl6.kt t7).kt (same_tup k8)
      have lt8 := lt.mono fun _ _ z => z.kt (same_tup k8)
      clear sl sl5 sl6 k2 k3 k5 k6 k7 K56 K67 T3 T5 t7 lt
      refine ⟨_, rfl, _, rfl, _, _, rfl, rfl, _, rfl, d, l, 6, rfl, D8, by decide, fun H9 r9 k9 D9 _ p9 => ?_⟩
      have ⟨r0, r6⟩ := p9 (by decide)
      obtain ⟨rn, rfl⟩ : ∃ n : Nat, r9 = (n : Int) := ⟨r9.toNat, by omega⟩
      have t9 := kpTup D8 k9
      refine ⟨_, _, rfl, rfl, _, rfl, by show 3 ≤ sizeLine; decide, fun rt nrt => ?_⟩
      have T9 := tabs_kp T8 D8 k9
      have sl9 := sl8.kt t9
      have ew9 := t9 _ _ ewa
      have lt9 := lt8.mono fun _ _ z => z.kt t9
      have k10 := same_upd (o := .tup [nV M, V.int ((M : Int) + 1 + (rn : Int)), nV M]) (Same.refl H9) nrt
      have ert : upd H9 rt (.tup [nV M, V.int ((M : Int) + 1 + (rn : Int)), nV M]) rt = some (.tup [nV M, nV (M + 1 + rn), nV M]) := upd_same
      generalize upd H9 rt (.tup [nV M, V.int ((M : Int) + 1 + (rn : Int)), nV M]) = H10 at k10 ert
      have rooms : ∀ (i : Nat) x, [nV M, nV (M + 1 + rn), nV M][i]? = some x → ∃ n : Nat, x = nV n ∧ n ≤ 20000 := fun i x hx => by
        match i, hx with
        | 0, hx => exact ⟨M, (Option.some.inj hx).symm, by omega⟩
        | 1, hx => exact ⟨M + 1 + rn, (Option.some.inj hx).symm, by omega⟩
        | 2, hx => exact ⟨M, (Option.some.inj hx).symm, by omega⟩
        | i + 3, hx => cases hx
      generalize [nV M, nV (M + 1 + rn), nV M] = rs at ert rooms
      refine ⟨rt, rfl, ⟨_, SqT.of ert⟩, ?_⟩
      refine for_it (walk_tup (K := K) (a := rt) (xs := rs)) (fun i σ' H' => ∃ x7 x8 : Option V, σ' = [some (.ref a), some (.ref d), some (.ref W), some v, some (nV M), some (.int sn), some (.ref wa), x7, x8] ∧ Tabs [(Pt, lamQ)] H' ∧ (∀ b xs, H10 b = some (.tup xs) → H' b = some (.tup xs))) ⟨_, _, rfl, T9.ext k10, fun _ _ e => e⟩ ?_ ?_ ?_
      · rintro i σ1 H' _ ⟨_, _, _, _, k⟩
        exact SqT.of (k _ _ ert)
      · rintro i x σ1 Ha H11 hi ⟨x7, x8, rfl, T11, k11⟩ ⟨rfl, hx⟩
        obtain ⟨n, rfl, hn⟩ := rooms i x hx
        have k9' : ∀ b xs, H9 b = some (.tup xs) → H11 b = some (.tup xs) := fun b xs e => k11 _ _ (k10 _ _ e)
        refine ⟨_, rfl, _, rfl, _, rfl, v, wa, ts, S, Y, n, L, rfl, sl9.kt k9', st, k9' _ _ ew9, lt9.mono fun _ _ z => z.kt k9', hq, dw, hn, T11, fun H12 x12 T12 => ⟨true, rfl, ?_⟩⟩
        refine iteF ?_
        exact ⟨_, _, rfl, T12, fun b xs e => exT' x12 _ _ (k11 _ _ e)⟩
      · rintro σ1 H11 ⟨x7, x8, rfl, _, _⟩
        exact q H11
end
theorem all_mk {l : PySem.W.OpenLaw} {w : World} {K : PySem.W.Frag} {h : Heap} {mg : Str → Option Value} {fa : Addr} (X : K.In h) (G : h.Ns mainGlobals mg) (hfa : mg "law" = some (.ref fa))
    {f_least_way_along : Addr} {od_least_way_along an_least_way_along : Option Addr} {sl_least_way_along : Array (Option Value)} {oc_least_way_along kV_least_way_along dc_least_way_along pm_least_way_along cd_least_way_along ct_least_way_along : Value}
    (a_least_way_along : PySem.W.nsIn K mainGlobals "least_way_along" = some (some (.ref f_least_way_along))) (l_least_way_along : K.lookup f_least_way_along = some ⟨oc_least_way_along, od_least_way_along, .func (PySem.W.fnOf "least_way_along" "least_way_along" (defArgs s_least_way_along) (defBody s_least_way_along) (defScope s_least_way_along) .none kV_least_way_along dc_least_way_along pm_least_way_along an_least_way_along cd_least_way_along ct_least_way_along), sl_least_way_along⟩) (c_least_way_along : PySem.W.codeIn K cd_least_way_along "least_way_along" = true) (k_least_way_along : PySem.W.keepIn K (.ref f_least_way_along) = true)
    {f_bounds_and_tails : Addr} {od_bounds_and_tails an_bounds_and_tails : Option Addr} {sl_bounds_and_tails : Array (Option Value)} {oc_bounds_and_tails kV_bounds_and_tails dc_bounds_and_tails pm_bounds_and_tails cd_bounds_and_tails ct_bounds_and_tails : Value}
    (a_bounds_and_tails : PySem.W.nsIn K mainGlobals "_bounds_and_tails" = some (some (.ref f_bounds_and_tails))) (l_bounds_and_tails : K.lookup f_bounds_and_tails = some ⟨oc_bounds_and_tails, od_bounds_and_tails, .func (PySem.W.fnOf "_bounds_and_tails" "_bounds_and_tails" (defArgs s_bounds_and_tails) (defBody s_bounds_and_tails) (defScope s_bounds_and_tails) .none kV_bounds_and_tails dc_bounds_and_tails pm_bounds_and_tails an_bounds_and_tails cd_bounds_and_tails ct_bounds_and_tails), sl_bounds_and_tails⟩) (c_bounds_and_tails : PySem.W.codeIn K cd_bounds_and_tails "_bounds_and_tails" = true) (k_bounds_and_tails : PySem.W.keepIn K (.ref f_bounds_and_tails) = true)
    {f_width_of : Addr} {od_width_of an_width_of : Option Addr} {sl_width_of : Array (Option Value)} {oc_width_of kV_width_of dc_width_of pm_width_of cd_width_of ct_width_of : Value}
    (a_width_of : PySem.W.nsIn K mainGlobals "width_of" = some (some (.ref f_width_of))) (l_width_of : K.lookup f_width_of = some ⟨oc_width_of, od_width_of, .func (PySem.W.fnOf "width_of" "width_of" (defArgs s_width_of) (defBody s_width_of) (defScope s_width_of) .none kV_width_of dc_width_of pm_width_of an_width_of cd_width_of ct_width_of), sl_width_of⟩) (c_width_of : PySem.W.codeIn K cd_width_of "width_of" = true) (k_width_of : PySem.W.keepIn K (.ref f_width_of) = true)
    {f_cut_of : Addr} {od_cut_of an_cut_of : Option Addr} {sl_cut_of : Array (Option Value)} {oc_cut_of kV_cut_of dc_cut_of pm_cut_of cd_cut_of ct_cut_of : Value}
    (a_cut_of : PySem.W.nsIn K mainGlobals "cut_of" = some (some (.ref f_cut_of))) (l_cut_of : K.lookup f_cut_of = some ⟨oc_cut_of, od_cut_of, .func (PySem.W.fnOf "cut_of" "cut_of" (defArgs s_cut_of) (defBody s_cut_of) (defScope s_cut_of) .none kV_cut_of dc_cut_of pm_cut_of an_cut_of cd_cut_of ct_cut_of), sl_cut_of⟩) (c_cut_of : PySem.W.codeIn K cd_cut_of "cut_of" = true) (k_cut_of : PySem.W.keepIn K (.ref f_cut_of) = true)
    {f_break_price : Addr} {od_break_price an_break_price : Option Addr} {sl_break_price : Array (Option Value)} {oc_break_price kV_break_price dc_break_price pm_break_price cd_break_price ct_break_price : Value}
    (a_break_price : PySem.W.nsIn K mainGlobals "break_price" = some (some (.ref f_break_price))) (l_break_price : K.lookup f_break_price = some ⟨oc_break_price, od_break_price, .func (PySem.W.fnOf "break_price" "break_price" (defArgs s_break_price) (defBody s_break_price) (defScope s_break_price) .none kV_break_price dc_break_price pm_break_price an_break_price cd_break_price ct_break_price), sl_break_price⟩) (c_break_price : PySem.W.codeIn K cd_break_price "break_price" = true) (k_break_price : PySem.W.keepIn K (.ref f_break_price) = true)
    {f_told : Addr} {od_told an_told : Option Addr} {sl_told : Array (Option Value)} {oc_told kV_told dc_told pm_told cd_told ct_told : Value}
    (a_told : PySem.W.nsIn K mainGlobals "_told" = some (some (.ref f_told))) (l_told : K.lookup f_told = some ⟨oc_told, od_told, .func (PySem.W.fnOf "_told" "_told" (defArgs s_told) (defBody s_told) (defScope s_told) .none kV_told dc_told pm_told an_told cd_told ct_told), sl_told⟩) (c_told : PySem.W.codeIn K cd_told "_told" = true) (k_told : PySem.W.keepIn K (.ref f_told) = true)
    {f_signs_of : Addr} {od_signs_of an_signs_of : Option Addr} {sl_signs_of : Array (Option Value)} {oc_signs_of kV_signs_of dc_signs_of pm_signs_of cd_signs_of ct_signs_of : Value}
    (a_signs_of : PySem.W.nsIn K mainGlobals "signs_of" = some (some (.ref f_signs_of))) (l_signs_of : K.lookup f_signs_of = some ⟨oc_signs_of, od_signs_of, .func (PySem.W.fnOf "signs_of" "signs_of" (defArgs s_signs_of) (defBody s_signs_of) (defScope s_signs_of) .none kV_signs_of dc_signs_of pm_signs_of an_signs_of cd_signs_of ct_signs_of), sl_signs_of⟩) (c_signs_of : PySem.W.codeIn K cd_signs_of "signs_of" = true) (k_signs_of : PySem.W.keepIn K (.ref f_signs_of) = true)
    {f_signs_between : Addr} {od_signs_between an_signs_between : Option Addr} {sl_signs_between : Array (Option Value)} {oc_signs_between kV_signs_between dc_signs_between pm_signs_between cd_signs_between ct_signs_between : Value}
    (a_signs_between : PySem.W.nsIn K mainGlobals "signs_between" = some (some (.ref f_signs_between))) (l_signs_between : K.lookup f_signs_between = some ⟨oc_signs_between, od_signs_between, .func (PySem.W.fnOf "signs_between" "signs_between" (defArgs s_signs_between) (defBody s_signs_between) (defScope s_signs_between) .none kV_signs_between dc_signs_between pm_signs_between an_signs_between cd_signs_between ct_signs_between), sl_signs_between⟩) (c_signs_between : PySem.W.codeIn K cd_signs_between "signs_between" = true) (k_signs_between : PySem.W.keepIn K (.ref f_signs_between) = true)
    {f_shape_of : Addr} {od_shape_of an_shape_of : Option Addr} {sl_shape_of : Array (Option Value)} {oc_shape_of kV_shape_of dc_shape_of pm_shape_of cd_shape_of ct_shape_of : Value}
    (a_shape_of : PySem.W.nsIn K mainGlobals "shape_of" = some (some (.ref f_shape_of))) (l_shape_of : K.lookup f_shape_of = some ⟨oc_shape_of, od_shape_of, .func (PySem.W.fnOf "shape_of" "shape_of" (defArgs s_shape_of) (defBody s_shape_of) (defScope s_shape_of) .none kV_shape_of dc_shape_of pm_shape_of an_shape_of cd_shape_of ct_shape_of), sl_shape_of⟩) (c_shape_of : PySem.W.codeIn K cd_shape_of "shape_of" = true) (k_shape_of : PySem.W.keepIn K (.ref f_shape_of) = true)
    {f_parting_places : Addr} {od_parting_places an_parting_places : Option Addr} {sl_parting_places : Array (Option Value)} {oc_parting_places kV_parting_places dc_parting_places pm_parting_places cd_parting_places ct_parting_places : Value}
    (a_parting_places : PySem.W.nsIn K mainGlobals "parting_places" = some (some (.ref f_parting_places))) (l_parting_places : K.lookup f_parting_places = some ⟨oc_parting_places, od_parting_places, .func (PySem.W.fnOf "parting_places" "parting_places" (defArgs s_parting_places) (defBody s_parting_places) (defScope s_parting_places) .none kV_parting_places dc_parting_places pm_parting_places an_parting_places cd_parting_places ct_parting_places), sl_parting_places⟩) (c_parting_places : PySem.W.codeIn K cd_parting_places "parting_places" = true) (k_parting_places : PySem.W.keepIn K (.ref f_parting_places) = true)
    {f_piece_width : Addr} {od_piece_width an_piece_width : Option Addr} {sl_piece_width : Array (Option Value)} {oc_piece_width kV_piece_width dc_piece_width pm_piece_width cd_piece_width ct_piece_width : Value}
    (a_piece_width : PySem.W.nsIn K mainGlobals "piece_width" = some (some (.ref f_piece_width))) (l_piece_width : K.lookup f_piece_width = some ⟨oc_piece_width, od_piece_width, .func (PySem.W.fnOf "piece_width" "piece_width" (defArgs s_piece_width) (defBody s_piece_width) (defScope s_piece_width) .none kV_piece_width dc_piece_width pm_piece_width an_piece_width cd_piece_width ct_piece_width), sl_piece_width⟩) (c_piece_width : PySem.W.codeIn K cd_piece_width "piece_width" = true) (k_piece_width : PySem.W.keepIn K (.ref f_piece_width) = true)
    {f_u_piece_width : Addr} {od_u_piece_width an_u_piece_width : Option Addr} {sl_u_piece_width : Array (Option Value)} {oc_u_piece_width kV_u_piece_width dc_u_piece_width pm_u_piece_width cd_u_piece_width ct_u_piece_width : Value}
    (a_u_piece_width : PySem.W.nsIn K mainGlobals "_piece_width" = some (some (.ref f_u_piece_width))) (l_u_piece_width : K.lookup f_u_piece_width = some ⟨oc_u_piece_width, od_u_piece_width, .func (PySem.W.fnOf "_piece_width" "_piece_width" (defArgs s_u_piece_width) (defBody s_u_piece_width) (defScope s_u_piece_width) .none kV_u_piece_width dc_u_piece_width pm_u_piece_width an_u_piece_width cd_u_piece_width ct_u_piece_width), sl_u_piece_width⟩) (c_u_piece_width : PySem.W.codeIn K cd_u_piece_width "_piece_width" = true) (k_u_piece_width : PySem.W.keepIn K (.ref f_u_piece_width) = true)
    {f_width_at : Addr} {od_width_at an_width_at : Option Addr} {sl_width_at : Array (Option Value)} {oc_width_at kV_width_at dc_width_at pm_width_at cd_width_at ct_width_at : Value}
    (a_width_at : PySem.W.nsIn K mainGlobals "_width_at" = some (some (.ref f_width_at))) (l_width_at : K.lookup f_width_at = some ⟨oc_width_at, od_width_at, .func (PySem.W.fnOf "_width_at" "_width_at" (defArgs s_width_at) (defBody s_width_at) (defScope s_width_at) .none kV_width_at dc_width_at pm_width_at an_width_at cd_width_at ct_width_at), sl_width_at⟩) (c_width_at : PySem.W.codeIn K cd_width_at "_width_at" = true) (k_width_at : PySem.W.keepIn K (.ref f_width_at) = true)
    {f_positions : Addr} {od_positions an_positions : Option Addr} {sl_positions : Array (Option Value)} {oc_positions kV_positions dc_positions pm_positions cd_positions ct_positions : Value}
    (a_positions : PySem.W.nsIn K mainGlobals "positions" = some (some (.ref f_positions))) (l_positions : K.lookup f_positions = some ⟨oc_positions, od_positions, .func (PySem.W.fnOf "positions" "positions" (defArgs s_positions) (defBody s_positions) (defScope s_positions) .none kV_positions dc_positions pm_positions an_positions cd_positions ct_positions), sl_positions⟩) (c_positions : PySem.W.codeIn K cd_positions "positions" = true) (k_positions : PySem.W.keepIn K (.ref f_positions) = true)
    {f_least_lines : Addr} {od_least_lines an_least_lines : Option Addr} {sl_least_lines : Array (Option Value)} {oc_least_lines kV_least_lines dc_least_lines pm_least_lines cd_least_lines ct_least_lines : Value}
    (a_least_lines : PySem.W.nsIn K mainGlobals "least_lines" = some (some (.ref f_least_lines))) (l_least_lines : K.lookup f_least_lines = some ⟨oc_least_lines, od_least_lines, .func (PySem.W.fnOf "least_lines" "least_lines" (defArgs s_least_lines) (defBody s_least_lines) (defScope s_least_lines) .none kV_least_lines dc_least_lines pm_least_lines an_least_lines cd_least_lines ct_least_lines), sl_least_lines⟩) (c_least_lines : PySem.W.codeIn K cd_least_lines "least_lines" = true) (k_least_lines : PySem.W.keepIn K (.ref f_least_lines) = true)
    {f_lines_from : Addr} {od_lines_from an_lines_from : Option Addr} {sl_lines_from : Array (Option Value)} {oc_lines_from kV_lines_from dc_lines_from pm_lines_from cd_lines_from ct_lines_from : Value}
    (a_lines_from : PySem.W.nsIn K mainGlobals "_lines_from" = some (some (.ref f_lines_from))) (l_lines_from : K.lookup f_lines_from = some ⟨oc_lines_from, od_lines_from, .func (PySem.W.fnOf "_lines_from" "_lines_from" (defArgs s_lines_from) (defBody s_lines_from) (defScope s_lines_from) .none kV_lines_from dc_lines_from pm_lines_from an_lines_from cd_lines_from ct_lines_from), sl_lines_from⟩) (c_lines_from : PySem.W.codeIn K cd_lines_from "_lines_from" = true) (k_lines_from : PySem.W.keepIn K (.ref f_lines_from) = true)
    {f_ends_from : Addr} {od_ends_from an_ends_from : Option Addr} {sl_ends_from : Array (Option Value)} {oc_ends_from kV_ends_from dc_ends_from pm_ends_from cd_ends_from ct_ends_from : Value}
    (a_ends_from : PySem.W.nsIn K mainGlobals "_ends_from" = some (some (.ref f_ends_from))) (l_ends_from : K.lookup f_ends_from = some ⟨oc_ends_from, od_ends_from, .func (PySem.W.fnOf "_ends_from" "_ends_from" (defArgs s_ends_from) (defBody s_ends_from) (defScope s_ends_from) .none kV_ends_from dc_ends_from pm_ends_from an_ends_from cd_ends_from ct_ends_from), sl_ends_from⟩) (c_ends_from : PySem.W.codeIn K cd_ends_from "_ends_from" = true) (k_ends_from : PySem.W.keepIn K (.ref f_ends_from) = true)
    {f_cost : Addr} {od_cost an_cost : Option Addr} {sl_cost : Array (Option Value)} {oc_cost kV_cost dc_cost pm_cost cd_cost ct_cost : Value}
    (a_cost : PySem.W.nsIn K mainGlobals "_cost" = some (some (.ref f_cost))) (l_cost : K.lookup f_cost = some ⟨oc_cost, od_cost, .func (PySem.W.fnOf "_cost" "_cost" (defArgs s_cost) (defBody s_cost) (defScope s_cost) .none kV_cost dc_cost pm_cost an_cost cd_cost ct_cost), sl_cost⟩) (c_cost : PySem.W.codeIn K cd_cost "_cost" = true) (k_cost : PySem.W.keepIn K (.ref f_cost) = true)
    {f_piece_strip : Addr} {od_piece_strip an_piece_strip : Option Addr} {sl_piece_strip : Array (Option Value)} {oc_piece_strip kV_piece_strip dc_piece_strip pm_piece_strip cd_piece_strip ct_piece_strip : Value}
    (a_piece_strip : PySem.W.nsIn K mainGlobals "piece_strip" = some (some (.ref f_piece_strip))) (l_piece_strip : K.lookup f_piece_strip = some ⟨oc_piece_strip, od_piece_strip, .func (PySem.W.fnOf "piece_strip" "piece_strip" (defArgs s_piece_strip) (defBody s_piece_strip) (defScope s_piece_strip) .none kV_piece_strip dc_piece_strip pm_piece_strip an_piece_strip cd_piece_strip ct_piece_strip), sl_piece_strip⟩) (c_piece_strip : PySem.W.codeIn K cd_piece_strip "piece_strip" = true) (k_piece_strip : PySem.W.keepIn K (.ref f_piece_strip) = true)
    {f_plain_strip : Addr} {od_plain_strip an_plain_strip : Option Addr} {sl_plain_strip : Array (Option Value)} {oc_plain_strip kV_plain_strip dc_plain_strip pm_plain_strip cd_plain_strip ct_plain_strip : Value}
    (a_plain_strip : PySem.W.nsIn K mainGlobals "plain_strip" = some (some (.ref f_plain_strip))) (l_plain_strip : K.lookup f_plain_strip = some ⟨oc_plain_strip, od_plain_strip, .func (PySem.W.fnOf "plain_strip" "plain_strip" (defArgs s_plain_strip) (defBody s_plain_strip) (defScope s_plain_strip) .none kV_plain_strip dc_plain_strip pm_plain_strip an_plain_strip cd_plain_strip ct_plain_strip), sl_plain_strip⟩) (c_plain_strip : PySem.W.codeIn K cd_plain_strip "plain_strip" = true) (k_plain_strip : PySem.W.keepIn K (.ref f_plain_strip) = true)
    {f_blank_strip : Addr} {od_blank_strip an_blank_strip : Option Addr} {sl_blank_strip : Array (Option Value)} {oc_blank_strip kV_blank_strip dc_blank_strip pm_blank_strip cd_blank_strip ct_blank_strip : Value}
    (a_blank_strip : PySem.W.nsIn K mainGlobals "blank_strip" = some (some (.ref f_blank_strip))) (l_blank_strip : K.lookup f_blank_strip = some ⟨oc_blank_strip, od_blank_strip, .func (PySem.W.fnOf "blank_strip" "blank_strip" (defArgs s_blank_strip) (defBody s_blank_strip) (defScope s_blank_strip) .none kV_blank_strip dc_blank_strip pm_blank_strip an_blank_strip cd_blank_strip ct_blank_strip), sl_blank_strip⟩) (c_blank_strip : PySem.W.codeIn K cd_blank_strip "blank_strip" = true) (k_blank_strip : PySem.W.keepIn K (.ref f_blank_strip) = true)
    {f_joined : Addr} {od_joined an_joined : Option Addr} {sl_joined : Array (Option Value)} {oc_joined kV_joined dc_joined pm_joined cd_joined ct_joined : Value}
    (a_joined : PySem.W.nsIn K mainGlobals "joined" = some (some (.ref f_joined))) (l_joined : K.lookup f_joined = some ⟨oc_joined, od_joined, .func (PySem.W.fnOf "joined" "joined" (defArgs s_joined) (defBody s_joined) (defScope s_joined) .none kV_joined dc_joined pm_joined an_joined cd_joined ct_joined), sl_joined⟩) (c_joined : PySem.W.codeIn K cd_joined "joined" = true) (k_joined : PySem.W.keepIn K (.ref f_joined) = true)
    {f_placed : Addr} {od_placed an_placed : Option Addr} {sl_placed : Array (Option Value)} {oc_placed kV_placed dc_placed pm_placed cd_placed ct_placed : Value}
    (a_placed : PySem.W.nsIn K mainGlobals "placed" = some (some (.ref f_placed))) (l_placed : K.lookup f_placed = some ⟨oc_placed, od_placed, .func (PySem.W.fnOf "placed" "placed" (defArgs s_placed) (defBody s_placed) (defScope s_placed) .none kV_placed dc_placed pm_placed an_placed cd_placed ct_placed), sl_placed⟩) (c_placed : PySem.W.codeIn K cd_placed "placed" = true) (k_placed : PySem.W.keepIn K (.ref f_placed) = true)
    {f_bare : Addr} {od_bare an_bare : Option Addr} {sl_bare : Array (Option Value)} {oc_bare kV_bare dc_bare pm_bare cd_bare ct_bare : Value}
    (a_bare : PySem.W.nsIn K mainGlobals "bare" = some (some (.ref f_bare))) (l_bare : K.lookup f_bare = some ⟨oc_bare, od_bare, .func (PySem.W.fnOf "bare" "bare" (defArgs s_bare) (defBody s_bare) (defScope s_bare) .none kV_bare dc_bare pm_bare an_bare cd_bare ct_bare), sl_bare⟩) (c_bare : PySem.W.codeIn K cd_bare "bare" = true) (k_bare : PySem.W.keepIn K (.ref f_bare) = true)
    {f_set_words : Addr} {od_set_words an_set_words : Option Addr} {sl_set_words : Array (Option Value)} {oc_set_words kV_set_words dc_set_words pm_set_words cd_set_words ct_set_words : Value}
    {tD_set_words : Addr} {tdD_set_words : Option Addr} {tcD_set_words : Value} {tiD_set_words : Array Value} {tnD_set_words : Nat} {tsD_set_words : Array (Option Value)}
    (a_set_words : PySem.W.nsIn K mainGlobals "set_words" = some (some (.ref f_set_words))) (l_set_words : K.lookup f_set_words = some ⟨oc_set_words, od_set_words, .func (PySem.W.fnOf "set_words" "set_words" (defArgs s_set_words) (defBody s_set_words) (defScope s_set_words) (.ref tD_set_words) kV_set_words dc_set_words pm_set_words an_set_words cd_set_words ct_set_words), sl_set_words⟩) (c_set_words : PySem.W.codeIn K cd_set_words "set_words" = true) (k_set_words : PySem.W.keepIn K (.ref f_set_words) = true)
    (lD_set_words : K.lookup tD_set_words = some ⟨tcD_set_words, tdD_set_words, .seq tiD_set_words tnD_set_words, tsD_set_words⟩) (tv_D_set_words : Vals [V.bl false] tiD_set_words.toList)
    {f_set_lines : Addr} {od_set_lines an_set_lines : Option Addr} {sl_set_lines : Array (Option Value)} {oc_set_lines kV_set_lines dc_set_lines pm_set_lines cd_set_lines ct_set_lines : Value}
    (a_set_lines : PySem.W.nsIn K mainGlobals "set_lines" = some (some (.ref f_set_lines))) (l_set_lines : K.lookup f_set_lines = some ⟨oc_set_lines, od_set_lines, .func (PySem.W.fnOf "set_lines" "set_lines" (defArgs s_set_lines) (defBody s_set_lines) (defScope s_set_lines) .none kV_set_lines dc_set_lines pm_set_lines an_set_lines cd_set_lines ct_set_lines), sl_set_lines⟩) (c_set_lines : PySem.W.codeIn K cd_set_lines "set_lines" = true) (k_set_lines : PySem.W.keepIn K (.ref f_set_lines) = true)
    {f_pieces_of_line : Addr} {od_pieces_of_line an_pieces_of_line : Option Addr} {sl_pieces_of_line : Array (Option Value)} {oc_pieces_of_line kV_pieces_of_line dc_pieces_of_line pm_pieces_of_line cd_pieces_of_line ct_pieces_of_line : Value}
    (a_pieces_of_line : PySem.W.nsIn K mainGlobals "_pieces_of_line" = some (some (.ref f_pieces_of_line))) (l_pieces_of_line : K.lookup f_pieces_of_line = some ⟨oc_pieces_of_line, od_pieces_of_line, .func (PySem.W.fnOf "_pieces_of_line" "_pieces_of_line" (defArgs s_pieces_of_line) (defBody s_pieces_of_line) (defScope s_pieces_of_line) .none kV_pieces_of_line dc_pieces_of_line pm_pieces_of_line an_pieces_of_line cd_pieces_of_line ct_pieces_of_line), sl_pieces_of_line⟩) (c_pieces_of_line : PySem.W.codeIn K cd_pieces_of_line "_pieces_of_line" = true) (k_pieces_of_line : PySem.W.keepIn K (.ref f_pieces_of_line) = true)
    {f_line_strip : Addr} {od_line_strip an_line_strip : Option Addr} {sl_line_strip : Array (Option Value)} {oc_line_strip kV_line_strip dc_line_strip pm_line_strip cd_line_strip ct_line_strip : Value}
    (a_line_strip : PySem.W.nsIn K mainGlobals "_line_strip" = some (some (.ref f_line_strip))) (l_line_strip : K.lookup f_line_strip = some ⟨oc_line_strip, od_line_strip, .func (PySem.W.fnOf "_line_strip" "_line_strip" (defArgs s_line_strip) (defBody s_line_strip) (defScope s_line_strip) .none kV_line_strip dc_line_strip pm_line_strip an_line_strip cd_line_strip ct_line_strip), sl_line_strip⟩) (c_line_strip : PySem.W.codeIn K cd_line_strip "_line_strip" = true) (k_line_strip : PySem.W.keepIn K (.ref f_line_strip) = true)
    {f_law_begin : Addr} {od_law_begin an_law_begin : Option Addr} {sl_law_begin : Array (Option Value)} {oc_law_begin kV_law_begin dc_law_begin pm_law_begin cd_law_begin ct_law_begin : Value}
    (a_law_begin : PySem.W.nsIn K mainGlobals "_law_begin" = some (some (.ref f_law_begin))) (l_law_begin : K.lookup f_law_begin = some ⟨oc_law_begin, od_law_begin, .func (PySem.W.fnOf "_law_begin" "_law_begin" (defArgs s_law_begin) (defBody s_law_begin) (defScope s_law_begin) .none kV_law_begin dc_law_begin pm_law_begin an_law_begin cd_law_begin ct_law_begin), sl_law_begin⟩) (c_law_begin : PySem.W.codeIn K cd_law_begin "_law_begin" = true) (k_law_begin : PySem.W.keepIn K (.ref f_law_begin) = true)
    {f_law_draw : Addr} {od_law_draw an_law_draw : Option Addr} {sl_law_draw : Array (Option Value)} {oc_law_draw kV_law_draw dc_law_draw pm_law_draw cd_law_draw ct_law_draw : Value}
    (a_law_draw : PySem.W.nsIn K mainGlobals "_law_draw" = some (some (.ref f_law_draw))) (l_law_draw : K.lookup f_law_draw = some ⟨oc_law_draw, od_law_draw, .func (PySem.W.fnOf "_law_draw" "_law_draw" (defArgs s_law_draw) (defBody s_law_draw) (defScope s_law_draw) .none kV_law_draw dc_law_draw pm_law_draw an_law_draw cd_law_draw ct_law_draw), sl_law_draw⟩) (c_law_draw : PySem.W.codeIn K cd_law_draw "_law_draw" = true) (k_law_draw : PySem.W.keepIn K (.ref f_law_draw) = true)
    {f_law_pick : Addr} {od_law_pick an_law_pick : Option Addr} {sl_law_pick : Array (Option Value)} {oc_law_pick kV_law_pick dc_law_pick pm_law_pick cd_law_pick ct_law_pick : Value}
    (a_law_pick : PySem.W.nsIn K mainGlobals "_law_pick" = some (some (.ref f_law_pick))) (l_law_pick : K.lookup f_law_pick = some ⟨oc_law_pick, od_law_pick, .func (PySem.W.fnOf "_law_pick" "_law_pick" (defArgs s_law_pick) (defBody s_law_pick) (defScope s_law_pick) .none kV_law_pick dc_law_pick pm_law_pick an_law_pick cd_law_pick ct_law_pick), sl_law_pick⟩) (c_law_pick : PySem.W.codeIn K cd_law_pick "_law_pick" = true) (k_law_pick : PySem.W.keepIn K (.ref f_law_pick) = true)
    {f_law_rare : Addr} {od_law_rare an_law_rare : Option Addr} {sl_law_rare : Array (Option Value)} {oc_law_rare kV_law_rare dc_law_rare pm_law_rare cd_law_rare ct_law_rare : Value}
    (a_law_rare : PySem.W.nsIn K mainGlobals "_law_rare" = some (some (.ref f_law_rare))) (l_law_rare : K.lookup f_law_rare = some ⟨oc_law_rare, od_law_rare, .func (PySem.W.fnOf "_law_rare" "_law_rare" (defArgs s_law_rare) (defBody s_law_rare) (defScope s_law_rare) .none kV_law_rare dc_law_rare pm_law_rare an_law_rare cd_law_rare ct_law_rare), sl_law_rare⟩) (c_law_rare : PySem.W.codeIn K cd_law_rare "_law_rare" = true) (k_law_rare : PySem.W.keepIn K (.ref f_law_rare) = true)
    {f_law_piece : Addr} {od_law_piece an_law_piece : Option Addr} {sl_law_piece : Array (Option Value)} {oc_law_piece kV_law_piece dc_law_piece pm_law_piece cd_law_piece ct_law_piece : Value}
    (a_law_piece : PySem.W.nsIn K mainGlobals "_law_piece" = some (some (.ref f_law_piece))) (l_law_piece : K.lookup f_law_piece = some ⟨oc_law_piece, od_law_piece, .func (PySem.W.fnOf "_law_piece" "_law_piece" (defArgs s_law_piece) (defBody s_law_piece) (defScope s_law_piece) .none kV_law_piece dc_law_piece pm_law_piece an_law_piece cd_law_piece ct_law_piece), sl_law_piece⟩) (c_law_piece : PySem.W.codeIn K cd_law_piece "_law_piece" = true) (k_law_piece : PySem.W.keepIn K (.ref f_law_piece) = true)
    {f_law_places : Addr} {od_law_places an_law_places : Option Addr} {sl_law_places : Array (Option Value)} {oc_law_places kV_law_places dc_law_places pm_law_places cd_law_places ct_law_places : Value}
    (a_law_places : PySem.W.nsIn K mainGlobals "_law_places" = some (some (.ref f_law_places))) (l_law_places : K.lookup f_law_places = some ⟨oc_law_places, od_law_places, .func (PySem.W.fnOf "_law_places" "_law_places" (defArgs s_law_places) (defBody s_law_places) (defScope s_law_places) .none kV_law_places dc_law_places pm_law_places an_law_places cd_law_places ct_law_places), sl_law_places⟩) (c_law_places : PySem.W.codeIn K cd_law_places "_law_places" = true) (k_law_places : PySem.W.keepIn K (.ref f_law_places) = true)
    {f_law_shape : Addr} {od_law_shape an_law_shape : Option Addr} {sl_law_shape : Array (Option Value)} {oc_law_shape kV_law_shape dc_law_shape pm_law_shape cd_law_shape ct_law_shape : Value}
    (a_law_shape : PySem.W.nsIn K mainGlobals "_law_shape" = some (some (.ref f_law_shape))) (l_law_shape : K.lookup f_law_shape = some ⟨oc_law_shape, od_law_shape, .func (PySem.W.fnOf "_law_shape" "_law_shape" (defArgs s_law_shape) (defBody s_law_shape) (defScope s_law_shape) .none kV_law_shape dc_law_shape pm_law_shape an_law_shape cd_law_shape ct_law_shape), sl_law_shape⟩) (c_law_shape : PySem.W.codeIn K cd_law_shape "_law_shape" = true) (k_law_shape : PySem.W.keepIn K (.ref f_law_shape) = true)
    {f_law_piece_width : Addr} {od_law_piece_width an_law_piece_width : Option Addr} {sl_law_piece_width : Array (Option Value)} {oc_law_piece_width kV_law_piece_width dc_law_piece_width pm_law_piece_width cd_law_piece_width ct_law_piece_width : Value}
    (a_law_piece_width : PySem.W.nsIn K mainGlobals "_law_piece_width" = some (some (.ref f_law_piece_width))) (l_law_piece_width : K.lookup f_law_piece_width = some ⟨oc_law_piece_width, od_law_piece_width, .func (PySem.W.fnOf "_law_piece_width" "_law_piece_width" (defArgs s_law_piece_width) (defBody s_law_piece_width) (defScope s_law_piece_width) .none kV_law_piece_width dc_law_piece_width pm_law_piece_width an_law_piece_width cd_law_piece_width ct_law_piece_width), sl_law_piece_width⟩) (c_law_piece_width : PySem.W.codeIn K cd_law_piece_width "_law_piece_width" = true) (k_law_piece_width : PySem.W.keepIn K (.ref f_law_piece_width) = true)
    {f_law_natural : Addr} {od_law_natural an_law_natural : Option Addr} {sl_law_natural : Array (Option Value)} {oc_law_natural kV_law_natural dc_law_natural pm_law_natural cd_law_natural ct_law_natural : Value}
    (a_law_natural : PySem.W.nsIn K mainGlobals "_law_natural" = some (some (.ref f_law_natural))) (l_law_natural : K.lookup f_law_natural = some ⟨oc_law_natural, od_law_natural, .func (PySem.W.fnOf "_law_natural" "_law_natural" (defArgs s_law_natural) (defBody s_law_natural) (defScope s_law_natural) .none kV_law_natural dc_law_natural pm_law_natural an_law_natural cd_law_natural ct_law_natural), sl_law_natural⟩) (c_law_natural : PySem.W.codeIn K cd_law_natural "_law_natural" = true) (k_law_natural : PySem.W.keepIn K (.ref f_law_natural) = true)
    {f_law_positions : Addr} {od_law_positions an_law_positions : Option Addr} {sl_law_positions : Array (Option Value)} {oc_law_positions kV_law_positions dc_law_positions pm_law_positions cd_law_positions ct_law_positions : Value}
    (a_law_positions : PySem.W.nsIn K mainGlobals "_law_positions" = some (some (.ref f_law_positions))) (l_law_positions : K.lookup f_law_positions = some ⟨oc_law_positions, od_law_positions, .func (PySem.W.fnOf "_law_positions" "_law_positions" (defArgs s_law_positions) (defBody s_law_positions) (defScope s_law_positions) .none kV_law_positions dc_law_positions pm_law_positions an_law_positions cd_law_positions ct_law_positions), sl_law_positions⟩) (c_law_positions : PySem.W.codeIn K cd_law_positions "_law_positions" = true) (k_law_positions : PySem.W.keepIn K (.ref f_law_positions) = true)
    {f_law_line_cost : Addr} {od_law_line_cost an_law_line_cost : Option Addr} {sl_law_line_cost : Array (Option Value)} {oc_law_line_cost kV_law_line_cost dc_law_line_cost pm_law_line_cost cd_law_line_cost ct_law_line_cost : Value}
    (a_law_line_cost : PySem.W.nsIn K mainGlobals "_law_line_cost" = some (some (.ref f_law_line_cost))) (l_law_line_cost : K.lookup f_law_line_cost = some ⟨oc_law_line_cost, od_law_line_cost, .func (PySem.W.fnOf "_law_line_cost" "_law_line_cost" (defArgs s_law_line_cost) (defBody s_law_line_cost) (defScope s_law_line_cost) .none kV_law_line_cost dc_law_line_cost pm_law_line_cost an_law_line_cost cd_law_line_cost ct_law_line_cost), sl_law_line_cost⟩) (c_law_line_cost : PySem.W.codeIn K cd_law_line_cost "_law_line_cost" = true) (k_law_line_cost : PySem.W.keepIn K (.ref f_law_line_cost) = true)
    {f_law_lines : Addr} {od_law_lines an_law_lines : Option Addr} {sl_law_lines : Array (Option Value)} {oc_law_lines kV_law_lines dc_law_lines pm_law_lines cd_law_lines ct_law_lines : Value}
    (a_law_lines : PySem.W.nsIn K mainGlobals "_law_lines" = some (some (.ref f_law_lines))) (l_law_lines : K.lookup f_law_lines = some ⟨oc_law_lines, od_law_lines, .func (PySem.W.fnOf "_law_lines" "_law_lines" (defArgs s_law_lines) (defBody s_law_lines) (defScope s_law_lines) .none kV_law_lines dc_law_lines pm_law_lines an_law_lines cd_law_lines ct_law_lines), sl_law_lines⟩) (c_law_lines : PySem.W.codeIn K cd_law_lines "_law_lines" = true) (k_law_lines : PySem.W.keepIn K (.ref f_law_lines) = true)
    {f_law_drawn_words : Addr} {od_law_drawn_words an_law_drawn_words : Option Addr} {sl_law_drawn_words : Array (Option Value)} {oc_law_drawn_words kV_law_drawn_words dc_law_drawn_words pm_law_drawn_words cd_law_drawn_words ct_law_drawn_words : Value}
    (a_law_drawn_words : PySem.W.nsIn K mainGlobals "_law_drawn_words" = some (some (.ref f_law_drawn_words))) (l_law_drawn_words : K.lookup f_law_drawn_words = some ⟨oc_law_drawn_words, od_law_drawn_words, .func (PySem.W.fnOf "_law_drawn_words" "_law_drawn_words" (defArgs s_law_drawn_words) (defBody s_law_drawn_words) (defScope s_law_drawn_words) .none kV_law_drawn_words dc_law_drawn_words pm_law_drawn_words an_law_drawn_words cd_law_drawn_words ct_law_drawn_words), sl_law_drawn_words⟩) (c_law_drawn_words : PySem.W.codeIn K cd_law_drawn_words "_law_drawn_words" = true) (k_law_drawn_words : PySem.W.keepIn K (.ref f_law_drawn_words) = true)
    {f_law_style_for : Addr} {od_law_style_for an_law_style_for : Option Addr} {sl_law_style_for : Array (Option Value)} {oc_law_style_for kV_law_style_for dc_law_style_for pm_law_style_for cd_law_style_for ct_law_style_for : Value}
    (a_law_style_for : PySem.W.nsIn K mainGlobals "_law_style_for" = some (some (.ref f_law_style_for))) (l_law_style_for : K.lookup f_law_style_for = some ⟨oc_law_style_for, od_law_style_for, .func (PySem.W.fnOf "_law_style_for" "_law_style_for" (defArgs s_law_style_for) (defBody s_law_style_for) (defScope s_law_style_for) .none kV_law_style_for dc_law_style_for pm_law_style_for an_law_style_for cd_law_style_for ct_law_style_for), sl_law_style_for⟩) (c_law_style_for : PySem.W.codeIn K cd_law_style_for "_law_style_for" = true) (k_law_style_for : PySem.W.keepIn K (.ref f_law_style_for) = true)
    {f_law_measure : Addr} {od_law_measure an_law_measure : Option Addr} {sl_law_measure : Array (Option Value)} {oc_law_measure kV_law_measure dc_law_measure pm_law_measure cd_law_measure ct_law_measure : Value}
    (a_law_measure : PySem.W.nsIn K mainGlobals "_law_measure" = some (some (.ref f_law_measure))) (l_law_measure : K.lookup f_law_measure = some ⟨oc_law_measure, od_law_measure, .func (PySem.W.fnOf "_law_measure" "_law_measure" (defArgs s_law_measure) (defBody s_law_measure) (defScope s_law_measure) .none kV_law_measure dc_law_measure pm_law_measure an_law_measure cd_law_measure ct_law_measure), sl_law_measure⟩) (c_law_measure : PySem.W.codeIn K cd_law_measure "_law_measure" = true) (k_law_measure : PySem.W.keepIn K (.ref f_law_measure) = true)
    {f_law_asked : Addr} {od_law_asked an_law_asked : Option Addr} {sl_law_asked : Array (Option Value)} {oc_law_asked kV_law_asked dc_law_asked pm_law_asked cd_law_asked ct_law_asked : Value}
    (a_law_asked : PySem.W.nsIn K mainGlobals "_law_asked" = some (some (.ref f_law_asked))) (l_law_asked : K.lookup f_law_asked = some ⟨oc_law_asked, od_law_asked, .func (PySem.W.fnOf "_law_asked" "_law_asked" (defArgs s_law_asked) (defBody s_law_asked) (defScope s_law_asked) .none kV_law_asked dc_law_asked pm_law_asked an_law_asked cd_law_asked ct_law_asked), sl_law_asked⟩) (c_law_asked : PySem.W.codeIn K cd_law_asked "_law_asked" = true) (k_law_asked : PySem.W.keepIn K (.ref f_law_asked) = true)
    {f_law_runs : Addr} {od_law_runs an_law_runs : Option Addr} {sl_law_runs : Array (Option Value)} {oc_law_runs kV_law_runs dc_law_runs pm_law_runs cd_law_runs ct_law_runs : Value}
    (a_law_runs : PySem.W.nsIn K mainGlobals "_law_runs" = some (some (.ref f_law_runs))) (l_law_runs : K.lookup f_law_runs = some ⟨oc_law_runs, od_law_runs, .func (PySem.W.fnOf "_law_runs" "_law_runs" (defArgs s_law_runs) (defBody s_law_runs) (defScope s_law_runs) .none kV_law_runs dc_law_runs pm_law_runs an_law_runs cd_law_runs ct_law_runs), sl_law_runs⟩) (c_law_runs : PySem.W.codeIn K cd_law_runs "_law_runs" = true) (k_law_runs : PySem.W.keepIn K (.ref f_law_runs) = true)
    {f_law_piece_end : Addr} {od_law_piece_end an_law_piece_end : Option Addr} {sl_law_piece_end : Array (Option Value)} {oc_law_piece_end kV_law_piece_end dc_law_piece_end pm_law_piece_end cd_law_piece_end ct_law_piece_end : Value}
    (a_law_piece_end : PySem.W.nsIn K mainGlobals "_law_piece_end" = some (some (.ref f_law_piece_end))) (l_law_piece_end : K.lookup f_law_piece_end = some ⟨oc_law_piece_end, od_law_piece_end, .func (PySem.W.fnOf "_law_piece_end" "_law_piece_end" (defArgs s_law_piece_end) (defBody s_law_piece_end) (defScope s_law_piece_end) .none kV_law_piece_end dc_law_piece_end pm_law_piece_end an_law_piece_end cd_law_piece_end ct_law_piece_end), sl_law_piece_end⟩) (c_law_piece_end : PySem.W.codeIn K cd_law_piece_end "_law_piece_end" = true) (k_law_piece_end : PySem.W.keepIn K (.ref f_law_piece_end) = true)
    {f_law_line_read : Addr} {od_law_line_read an_law_line_read : Option Addr} {sl_law_line_read : Array (Option Value)} {oc_law_line_read kV_law_line_read dc_law_line_read pm_law_line_read cd_law_line_read ct_law_line_read : Value}
    (a_law_line_read : PySem.W.nsIn K mainGlobals "_law_line_read" = some (some (.ref f_law_line_read))) (l_law_line_read : K.lookup f_law_line_read = some ⟨oc_law_line_read, od_law_line_read, .func (PySem.W.fnOf "_law_line_read" "_law_line_read" (defArgs s_law_line_read) (defBody s_law_line_read) (defScope s_law_line_read) .none kV_law_line_read dc_law_line_read pm_law_line_read an_law_line_read cd_law_line_read ct_law_line_read), sl_law_line_read⟩) (c_law_line_read : PySem.W.codeIn K cd_law_line_read "_law_line_read" = true) (k_law_line_read : PySem.W.keepIn K (.ref f_law_line_read) = true)
    {f_law_gaps_hold : Addr} {od_law_gaps_hold an_law_gaps_hold : Option Addr} {sl_law_gaps_hold : Array (Option Value)} {oc_law_gaps_hold kV_law_gaps_hold dc_law_gaps_hold pm_law_gaps_hold cd_law_gaps_hold ct_law_gaps_hold : Value}
    (a_law_gaps_hold : PySem.W.nsIn K mainGlobals "_law_gaps_hold" = some (some (.ref f_law_gaps_hold))) (l_law_gaps_hold : K.lookup f_law_gaps_hold = some ⟨oc_law_gaps_hold, od_law_gaps_hold, .func (PySem.W.fnOf "_law_gaps_hold" "_law_gaps_hold" (defArgs s_law_gaps_hold) (defBody s_law_gaps_hold) (defScope s_law_gaps_hold) .none kV_law_gaps_hold dc_law_gaps_hold pm_law_gaps_hold an_law_gaps_hold cd_law_gaps_hold ct_law_gaps_hold), sl_law_gaps_hold⟩) (c_law_gaps_hold : PySem.W.codeIn K cd_law_gaps_hold "_law_gaps_hold" = true) (k_law_gaps_hold : PySem.W.keepIn K (.ref f_law_gaps_hold) = true)
    {f_law_position : Addr} {od_law_position an_law_position : Option Addr} {sl_law_position : Array (Option Value)} {oc_law_position kV_law_position dc_law_position pm_law_position cd_law_position ct_law_position : Value}
    (a_law_position : PySem.W.nsIn K mainGlobals "_law_position" = some (some (.ref f_law_position))) (l_law_position : K.lookup f_law_position = some ⟨oc_law_position, od_law_position, .func (PySem.W.fnOf "_law_position" "_law_position" (defArgs s_law_position) (defBody s_law_position) (defScope s_law_position) .none kV_law_position dc_law_position pm_law_position an_law_position cd_law_position ct_law_position), sl_law_position⟩) (c_law_position : PySem.W.codeIn K cd_law_position "_law_position" = true) (k_law_position : PySem.W.keepIn K (.ref f_law_position) = true)
    {f_law_way_told : Addr} {od_law_way_told an_law_way_told : Option Addr} {sl_law_way_told : Array (Option Value)} {oc_law_way_told kV_law_way_told dc_law_way_told pm_law_way_told cd_law_way_told ct_law_way_told : Value}
    (a_law_way_told : PySem.W.nsIn K mainGlobals "_law_way_told" = some (some (.ref f_law_way_told))) (l_law_way_told : K.lookup f_law_way_told = some ⟨oc_law_way_told, od_law_way_told, .func (PySem.W.fnOf "_law_way_told" "_law_way_told" (defArgs s_law_way_told) (defBody s_law_way_told) (defScope s_law_way_told) .none kV_law_way_told dc_law_way_told pm_law_way_told an_law_way_told cd_law_way_told ct_law_way_told), sl_law_way_told⟩) (c_law_way_told : PySem.W.codeIn K cd_law_way_told "_law_way_told" = true) (k_law_way_told : PySem.W.keepIn K (.ref f_law_way_told) = true)
    {f_law_total : Addr} {od_law_total an_law_total : Option Addr} {sl_law_total : Array (Option Value)} {oc_law_total kV_law_total dc_law_total pm_law_total cd_law_total ct_law_total : Value}
    (a_law_total : PySem.W.nsIn K mainGlobals "_law_total" = some (some (.ref f_law_total))) (l_law_total : K.lookup f_law_total = some ⟨oc_law_total, od_law_total, .func (PySem.W.fnOf "_law_total" "_law_total" (defArgs s_law_total) (defBody s_law_total) (defScope s_law_total) .none kV_law_total dc_law_total pm_law_total an_law_total cd_law_total ct_law_total), sl_law_total⟩) (c_law_total : PySem.W.codeIn K cd_law_total "_law_total" = true) (k_law_total : PySem.W.keepIn K (.ref f_law_total) = true)
    {f_law_holds : Addr} {od_law_holds an_law_holds : Option Addr} {sl_law_holds : Array (Option Value)} {oc_law_holds kV_law_holds dc_law_holds pm_law_holds cd_law_holds ct_law_holds : Value}
    (a_law_holds : PySem.W.nsIn K mainGlobals "_law_holds" = some (some (.ref f_law_holds))) (l_law_holds : K.lookup f_law_holds = some ⟨oc_law_holds, od_law_holds, .func (PySem.W.fnOf "_law_holds" "_law_holds" (defArgs s_law_holds) (defBody s_law_holds) (defScope s_law_holds) .none kV_law_holds dc_law_holds pm_law_holds an_law_holds cd_law_holds ct_law_holds), sl_law_holds⟩) (c_law_holds : PySem.W.codeIn K cd_law_holds "_law_holds" = true) (k_law_holds : PySem.W.keepIn K (.ref f_law_holds) = true)
    {f_law : Addr} {od_law an_law : Option Addr} {sl_law : Array (Option Value)} {oc_law kV_law dc_law pm_law cd_law ct_law : Value}
    (a_law : PySem.W.nsIn K mainGlobals "law" = some (some (.ref f_law))) (l_law : K.lookup f_law = some ⟨oc_law, od_law, .func (PySem.W.fnOf "law" "law" (defArgs s_law) (defBody s_law) (defScope s_law) .none kV_law dc_law pm_law an_law cd_law ct_law), sl_law⟩) (c_law : PySem.W.codeIn K cd_law "law" = true) (k_law : PySem.W.keepIn K (.ref f_law) = true)
    {t_HYPHEN : Tok} (m_HYPHEN : PySem.W.nsIn K mainGlobals "HYPHEN" = some (some (.str "-" t_HYPHEN)))
    {t_FILLER : Tok} (m_FILLER : PySem.W.nsIn K mainGlobals "FILLER" = some (some (.str "_" t_FILLER)))
    {t_COVER : Tok} (m_COVER : PySem.W.nsIn K mainGlobals "COVER" = some (some (.str "#" t_COVER)))
    {t_BLANK : Tok} (m_BLANK : PySem.W.nsIn K mainGlobals "BLANK" = some (some (.str " " t_BLANK)))
    (n_all : PySem.W.nsIn K mainGlobals "all" = some none)
    (n_enumerate : PySem.W.nsIn K mainGlobals "enumerate" = some none)
    (n_int : PySem.W.nsIn K mainGlobals "int" = some none)
    (n_isinstance : PySem.W.nsIn K mainGlobals "isinstance" = some none)
    (n_len : PySem.W.nsIn K mainGlobals "len" = some none)
    (n_list : PySem.W.nsIn K mainGlobals "list" = some none)
    (n_max : PySem.W.nsIn K mainGlobals "max" = some none)
    (n_min : PySem.W.nsIn K mainGlobals "min" = some none)
    (n_range : PySem.W.nsIn K mainGlobals "range" = some none)
    (n_sorted : PySem.W.nsIn K mainGlobals "sorted" = some none)
    (n_str : PySem.W.nsIn K mainGlobals "str" = some none)
    (n_sum : PySem.W.nsIn K mainGlobals "sum" = some none)
    (n_tuple : PySem.W.nsIn K mainGlobals "tuple" = some none)
    (n_zip : PySem.W.nsIn K mainGlobals "zip" = some none)
    {cc_PagesError : Addr} (g_PagesError : PySem.W.nsIn K mainGlobals "PagesError" = some (some (.ref cc_PagesError))) (ic_PagesError : PySem.W.isClsIn K cc_PagesError = true) (ty_PagesError : PySem.W.typeIn K (.ref cc_PagesError) = some (.type "type"))
    {cc_LimitError : Addr} (g_LimitError : PySem.W.nsIn K mainGlobals "LimitError" = some (some (.ref cc_LimitError))) (ic_LimitError : PySem.W.isClsIn K cc_LimitError = true) (ty_LimitError : PySem.W.typeIn K (.ref cc_LimitError) = some (.type "type"))
    {cc_TooWide : Addr} (g_TooWide : PySem.W.nsIn K mainGlobals "TooWide" = some (some (.ref cc_TooWide))) (ic_TooWide : PySem.W.isClsIn K cc_TooWide = true) (ty_TooWide : PySem.W.typeIn K (.ref cc_TooWide) = some (.type "type"))
    (bx_PagesError : PySem.W.subIn K (.ref cc_PagesError) (.type "BaseException") = some true)
    (o_hn : PySem.W.specialIn K (.builtin "object.__class__") "__get__" = some (some (.builtin "getset_descriptor.__get__"))) (o_ht : PySem.W.takesIn K (.builtin "object.__class__") = some true)
    {nm_TooWide q_TooWide : Str} {N_TooWide : Addr} {bs_TooWide bm_TooWide : List Value} {sn_TooWide : List Str} {sub_TooWide : List Value} {ab_TooWide : Bool} {col_TooWide : Option Bool} {dd_TooWide : Option Addr} {k0_TooWide k1_TooWide k2_TooWide k3_TooWide k5_TooWide : Option Value}
    (xL_TooWide : K.lookup cc_TooWide = some (excClassObj nm_TooWide q_TooWide cc_TooWide N_TooWide bs_TooWide bm_TooWide true sn_TooWide sub_TooWide ab_TooWide col_TooWide dd_TooWide k0_TooWide k1_TooWide k2_TooWide k3_TooWide k5_TooWide "ValueError.__new__"))
    (rv_TooWide : PySem.HandSPX.refsVE bm_TooWide = true)
    (sa_TooWide : PySem.W.findIn K (.ref cc_TooWide) "__setattr__" = some (some (.builtin "object.__setattr__")))
    (ga_TooWide : PySem.W.findIn K (.ref cc_TooWide) "__getattribute__" = some (some (.builtin "BaseException.__getattribute__")))
    (gg_TooWide : PySem.W.findIn K (.ref cc_TooWide) "__getattr__" = some none)
    (ex_TooWide : PySem.W.subIn K (.ref cc_TooWide) (.type "BaseException") = some true)
    (kp_TooWide : PySem.W.keepIn K (.ref cc_TooWide) = true)
    (hd_TooWide : PySem.W.hasDictIn K cc_TooWide = true)
    (ha_TooWide : PySem.W.findIn K (.ref cc_TooWide) "__class__" = some (some (.builtin "object.__class__")))
    (hm_TooWide : PySem.W.mroIn K cc_TooWide (.type "object") = some true)
    (vs_TooWide : PySem.W.subIn K (.ref cc_TooWide) (.type "ValueError") = some true)
    (no_TooWide_part : PySem.W.findIn K (.ref cc_TooWide) "part" = some none)
    (sb_TooWide_PagesError : PySem.W.subIn K (.ref cc_TooWide) (.ref cc_PagesError) = some true)
    (sb_TooWide_LimitError : PySem.W.subIn K (.ref cc_TooWide) (.ref cc_LimitError) = some true)
    (sb_TooWide_TooWide : PySem.W.subIn K (.ref cc_TooWide) (.ref cc_TooWide) = some true)
    {fi_TooWide : Addr} {odi_TooWide ani_TooWide : Option Addr} {sli_TooWide : Array (Option Value)} {oci_TooWide kVi_TooWide dci_TooWide pmi_TooWide cdi_TooWide cti_TooWide : Value}
    (ii_TooWide : PySem.W.findIn K (.ref cc_TooWide) "__init__" = some (some (.ref fi_TooWide))) (ti_TooWide : PySem.W.typeIn K (.ref fi_TooWide) = some (.type "function")) (li_TooWide : K.lookup fi_TooWide = some ⟨oci_TooWide, odi_TooWide, .func (PySem.W.fnOf "__init__" "TooWide.__init__" (defArgs s_TooWide_init) (defBody s_TooWide_init) (defScope s_TooWide_init) .none kVi_TooWide dci_TooWide pmi_TooWide ani_TooWide cdi_TooWide cti_TooWide), sli_TooWide⟩) (ci_TooWide : PySem.W.codeIn K cdi_TooWide "TooWide.__init__" = true) (ki_TooWide : PySem.W.keepIn K (.ref fi_TooWide) = true)
    {cB : Addr} (e_lam : cd_least_lines = .ref cB) (hd_lam : PySem.W.codeHdIn K cB (He.tabOf K cB) = true) (no_lam : K.lookup (He.tabOf K cB) = none) (ht_lam : h.get? (He.tabOf K cB) = some { cls := .none, data := .fields #[] })
    : LamX.LawAtS l w K CX0 12 63 "_law_script" mg fa h := by
  have e := hfa.symm.trans (PySem.W.mg_of X G a_law)
  cases e
  have F_least_way_along := fun_mk (st := s_least_way_along) l_least_way_along c_least_way_along k_least_way_along
  have b_least_way_along := F_least_way_along.binds (ps := ["places", "leads"]) fun _ _ _ _ _ _ us hl => match us, hl with | [_, _], _ => rfl
  have F_bounds_and_tails := fun_mk (st := s_bounds_and_tails) l_bounds_and_tails c_bounds_and_tails k_bounds_and_tails
  have b_bounds_and_tails := F_bounds_and_tails.binds (ps := ["places", "leads"]) fun _ _ _ _ _ _ us hl => match us, hl with | [_, _], _ => rfl
  have F_width_of := fun_mk (st := s_width_of) l_width_of c_width_of k_width_of
  have b_width_of := F_width_of.binds (ps := ["style", "sign"]) fun _ _ _ _ _ _ us hl => match us, hl with | [_, _], _ => rfl
  have F_cut_of := fun_mk (st := s_cut_of) l_cut_of c_cut_of k_cut_of
  have b_cut_of := F_cut_of.binds (ps := ["style", "sign", "next_sign"]) fun _ _ _ _ _ _ us hl => match us, hl with | [_, _, _], _ => rfl
  have F_break_price := fun_mk (st := s_break_price) l_break_price c_break_price k_break_price
  have b_break_price := F_break_price.binds (ps := ["style", "sign", "next_sign"]) fun _ _ _ _ _ _ us hl => match us, hl with | [_, _, _], _ => rfl
  have F_told := fun_mk (st := s_told) l_told c_told k_told
  have b_told := F_told.binds (ps := ["rows", "key", "otherwise"]) fun _ _ _ _ _ _ us hl => match us, hl with | [_, _, _], _ => rfl
  have F_signs_of := fun_mk (st := s_signs_of) l_signs_of c_signs_of k_signs_of
  have b_signs_of := F_signs_of.binds (ps := ["style", "word", "first", "behind"]) fun _ _ _ _ _ _ us hl => match us, hl with | [_, _, _, _], _ => rfl
  have F_signs_between := fun_mk (st := s_signs_between) l_signs_between c_signs_between k_signs_between
  have b_signs_between := F_signs_between.binds (ps := ["style", "word", "first", "last"]) fun _ _ _ _ _ _ us hl => match us, hl with | [_, _, _, _], _ => rfl
  have F_shape_of := fun_mk (st := s_shape_of) l_shape_of c_shape_of k_shape_of
  have b_shape_of := F_shape_of.binds (ps := ["style", "word"]) fun _ _ _ _ _ _ us hl => match us, hl with | [_, _], _ => rfl
  have F_parting_places := fun_mk (st := s_parting_places) l_parting_places c_parting_places k_parting_places
  have b_parting_places := F_parting_places.binds (ps := ["style", "word"]) fun _ _ _ _ _ _ us hl => match us, hl with | [_, _], _ => rfl
  have F_piece_width := fun_mk (st := s_piece_width) l_piece_width c_piece_width k_piece_width
  have b_piece_width := F_piece_width.binds (ps := ["shape", "first", "last"]) fun _ _ _ _ _ _ us hl => match us, hl with | [_, _, _], _ => rfl
  have F_u_piece_width := fun_mk (st := s_u_piece_width) l_u_piece_width c_u_piece_width k_u_piece_width
  have b_u_piece_width := F_u_piece_width.binds (ps := ["style", "word", "first", "behind"]) fun _ _ _ _ _ _ us hl => match us, hl with | [_, _, _, _], _ => rfl
  have F_width_at := fun_mk (st := s_width_at) l_width_at c_width_at k_width_at
  have b_width_at := F_width_at.binds (ps := ["style", "word", "at", "behind"]) fun _ _ _ _ _ _ us hl => match us, hl with | [_, _, _, _], _ => rfl
  have F_positions := fun_mk (st := s_positions) l_positions c_positions k_positions
  have b_positions := F_positions.binds (ps := ["shapes"]) fun _ _ _ _ _ _ us hl => match us, hl with | [_], _ => rfl
  have F_least_lines := fun_mk (st := s_least_lines) l_least_lines c_least_lines k_least_lines
  have b_least_lines := F_least_lines.binds (ps := ["measure", "ladder", "shapes"]) fun _ _ _ _ _ _ us hl => match us, hl with | [_, _, _], _ => rfl
  have F_lines_from := fun_mk (st := s_lines_from) l_lines_from c_lines_from k_lines_from
  have b_lines_from := F_lines_from.binds (ps := ["measure", "ladder", "shapes", "begin"]) fun _ _ _ _ _ _ us hl => match us, hl with | [_, _, _, _], _ => rfl
  have F_ends_from := fun_mk (st := s_ends_from) l_ends_from c_ends_from k_ends_from
  have b_ends_from := F_ends_from.binds (ps := ["measure", "shapes", "begin"]) fun _ _ _ _ _ _ us hl => match us, hl with | [_, _, _], _ => rfl
  have F_cost := fun_mk (st := s_cost) l_cost c_cost k_cost
  have b_cost := F_cost.binds (ps := ["measure", "ladder", "shapes", "begin", "end", "width"]) fun _ _ _ _ _ _ us hl => match us, hl with | [_, _, _, _, _, _], _ => rfl
  have F_piece_strip := fun_mk (st := s_piece_strip) l_piece_strip c_piece_strip k_piece_strip
  have b_piece_strip := F_piece_strip.binds (ps := ["style", "word", "struck", "first", "last"]) fun _ _ _ _ _ _ us hl => match us, hl with | [_, _, _, _, _], _ => rfl
  have F_plain_strip := fun_mk (st := s_plain_strip) l_plain_strip c_plain_strip k_plain_strip
  have b_plain_strip := F_plain_strip.binds (ps := ["signs"]) fun _ _ _ _ _ _ us hl => match us, hl with | [_], _ => rfl
  have F_blank_strip := fun_mk (st := s_blank_strip) l_blank_strip c_blank_strip k_blank_strip
  have b_blank_strip := F_blank_strip.binds (ps := ["width"]) fun _ _ _ _ _ _ us hl => match us, hl with | [_], _ => rfl
  have F_joined := fun_mk (st := s_joined) l_joined c_joined k_joined
  have b_joined := F_joined.binds (ps := ["strips"]) fun _ _ _ _ _ _ us hl => match us, hl with | [_], _ => rfl
  have F_placed := fun_mk (st := s_placed) l_placed c_placed k_placed
  have b_placed := F_placed.binds (ps := ["strip", "left", "width"]) fun _ _ _ _ _ _ us hl => match us, hl with | [_, _, _], _ => rfl
  have F_bare := fun_mk (st := s_bare) l_bare c_bare k_bare
  have b_bare := F_bare.binds (ps := ["strips"]) fun _ _ _ _ _ _ us hl => match us, hl with | [_], _ => rfl
  have F_set_words : L2.FunD K "set_words" "set_words" (defArgs s_set_words) (defBody s_set_words) (defScope s_set_words) [V.bl false] [] f_set_words _ := ⟨⟨_, _, _, _, _, _, _, _, _, _, rfl, l_set_words, c_set_words, .inr ⟨by simp, tD_set_words, _, tiD_set_words.toList, tnD_set_words, rfl, lD_set_words, by simp, tv_D_set_words⟩, .inl rfl⟩, k_set_words⟩
  have b0_set_words := F_set_words.binds1 (ps := ["style", "measure", "words", "ragged"]) 4 1 (by simp) (by rfl) fun _ _ _ _ _ _ _ us its h1 h2 => match us, its, h1, h2 with | [_, _, _, _], [_], _, _ => ⟨_, rfl, rfl⟩
  have b1_set_words := F_set_words.binds1 (ps := ["style", "measure", "words", "ragged"]) 3 0 (by simp) (by rfl) fun _ _ _ _ _ _ _ us its h1 h2 => match us, its, h1, h2 with | [_, _, _], [_], _, _ => ⟨_, rfl, rfl⟩
  have F_set_lines := fun_mk (st := s_set_lines) l_set_lines c_set_lines k_set_lines
  have b_set_lines := F_set_lines.binds (ps := ["style", "measure", "words", "ragged"]) fun _ _ _ _ _ _ us hl => match us, hl with | [_, _, _, _], _ => rfl
  have F_pieces_of_line := fun_mk (st := s_pieces_of_line) l_pieces_of_line c_pieces_of_line k_pieces_of_line
  have b_pieces_of_line := F_pieces_of_line.binds (ps := ["style", "words", "begin", "end"]) fun _ _ _ _ _ _ us hl => match us, hl with | [_, _, _, _], _ => rfl
  have F_line_strip := fun_mk (st := s_line_strip) l_line_strip c_line_strip k_line_strip
  have b_line_strip := F_line_strip.binds (ps := ["pieces", "measure", "loose"]) fun _ _ _ _ _ _ us hl => match us, hl with | [_, _, _], _ => rfl
  have F_law_begin := fun_mk (st := s_law_begin) l_law_begin c_law_begin k_law_begin
  have b_law_begin := F_law_begin.binds (ps := ["_law_script"]) fun _ _ _ _ _ _ us hl => match us, hl with | [_], _ => rfl
  have F_law_draw := fun_mk (st := s_law_draw) l_law_draw c_law_draw k_law_draw
  have b_law_draw := F_law_draw.binds (ps := ["_law_d", "_law_many"]) fun _ _ _ _ _ _ us hl => match us, hl with | [_, _], _ => rfl
  have F_law_pick := fun_mk (st := s_law_pick) l_law_pick c_law_pick k_law_pick
  have b_law_pick := F_law_pick.binds (ps := ["_law_d", "_law_row"]) fun _ _ _ _ _ _ us hl => match us, hl with | [_, _], _ => rfl
  have F_law_rare := fun_mk (st := s_law_rare) l_law_rare c_law_rare k_law_rare
  have b_law_rare := F_law_rare.binds (ps := ["_law_d", "_law_many"]) fun _ _ _ _ _ _ us hl => match us, hl with | [_, _], _ => rfl
  have F_law_piece := fun_mk (st := s_law_piece) l_law_piece c_law_piece k_law_piece
  have b_law_piece := F_law_piece.binds (ps := ["_law_style", "_law_word", "_law_first", "_law_behind"]) fun _ _ _ _ _ _ us hl => match us, hl with | [_, _, _, _], _ => rfl
  have F_law_places := fun_mk (st := s_law_places) l_law_places c_law_places k_law_places
  have b_law_places := F_law_places.binds (ps := ["_law_style", "_law_word"]) fun _ _ _ _ _ _ us hl => match us, hl with | [_, _], _ => rfl
  have F_law_shape := fun_mk (st := s_law_shape) l_law_shape c_law_shape k_law_shape
  have b_law_shape := F_law_shape.binds (ps := ["_law_style", "_law_word"]) fun _ _ _ _ _ _ us hl => match us, hl with | [_, _], _ => rfl
  have F_law_piece_width := fun_mk (st := s_law_piece_width) l_law_piece_width c_law_piece_width k_law_piece_width
  have b_law_piece_width := F_law_piece_width.binds (ps := ["_law_shape_here", "_law_first", "_law_last"]) fun _ _ _ _ _ _ us hl => match us, hl with | [_, _, _], _ => rfl
  have F_law_natural := fun_mk (st := s_law_natural) l_law_natural c_law_natural k_law_natural
  have b_law_natural := F_law_natural.binds (ps := ["_law_shapes", "_law_start", "_law_end"]) fun _ _ _ _ _ _ us hl => match us, hl with | [_, _, _], _ => rfl
  have F_law_positions := fun_mk (st := s_law_positions) l_law_positions c_law_positions k_law_positions
  have b_law_positions := F_law_positions.binds (ps := ["_law_shapes"]) fun _ _ _ _ _ _ us hl => match us, hl with | [_], _ => rfl
  have F_law_line_cost := fun_mk (st := s_law_line_cost) l_law_line_cost c_law_line_cost k_law_line_cost
  have b_law_line_cost := F_law_line_cost.binds (ps := ["_law_measure_here", "_law_ladder", "_law_shapes", "_law_start", "_law_end"]) fun _ _ _ _ _ _ us hl => match us, hl with | [_, _, _, _, _], _ => rfl
  have F_law_lines := fun_mk (st := s_law_lines) l_law_lines c_law_lines k_law_lines
  have b_law_lines := F_law_lines.binds (ps := ["_law_measure_here", "_law_ladder", "_law_shapes"]) fun _ _ _ _ _ _ us hl => match us, hl with | [_, _, _], _ => rfl
  have F_law_drawn_words := fun_mk (st := s_law_drawn_words) l_law_drawn_words c_law_drawn_words k_law_drawn_words
  have b_law_drawn_words := F_law_drawn_words.binds (ps := ["_law_d"]) fun _ _ _ _ _ _ us hl => match us, hl with | [_], _ => rfl
  have F_law_style_for := fun_mk (st := s_law_style_for) l_law_style_for c_law_style_for k_law_style_for
  have b_law_style_for := F_law_style_for.binds (ps := ["_law_d", "_law_words"]) fun _ _ _ _ _ _ us hl => match us, hl with | [_, _], _ => rfl
  have F_law_measure := fun_mk (st := s_law_measure) l_law_measure c_law_measure k_law_measure
  have b_law_measure := F_law_measure.binds (ps := ["_law_d", "_law_shapes"]) fun _ _ _ _ _ _ us hl => match us, hl with | [_, _], _ => rfl
  have F_law_asked := fun_mk (st := s_law_asked) l_law_asked c_law_asked k_law_asked
  have b_law_asked := F_law_asked.binds (ps := ["_law_style", "_law_measure_here", "_law_words", "_law_close"]) fun _ _ _ _ _ _ us hl => match us, hl with | [_, _, _, _], _ => rfl
  have F_law_runs := fun_mk (st := s_law_runs) l_law_runs c_law_runs k_law_runs
  have b_law_runs := F_law_runs.binds (ps := ["_law_signs"]) fun _ _ _ _ _ _ us hl => match us, hl with | [_], _ => rfl
  have F_law_piece_end := fun_mk (st := s_law_piece_end) l_law_piece_end c_law_piece_end k_law_piece_end
  have b_law_piece_end := F_law_piece_end.binds (ps := ["_law_style", "_law_word", "_law_place", "_law_part"]) fun _ _ _ _ _ _ us hl => match us, hl with | [_, _, _, _], _ => rfl
  have F_law_line_read := fun_mk (st := s_law_line_read) l_law_line_read c_law_line_read k_law_line_read
  have b_law_line_read := F_law_line_read.binds (ps := ["_law_style", "_law_words", "_law_start", "_law_strip"]) fun _ _ _ _ _ _ us hl => match us, hl with | [_, _, _, _], _ => rfl
  have F_law_gaps_hold := fun_mk (st := s_law_gaps_hold) l_law_gaps_hold c_law_gaps_hold k_law_gaps_hold
  have b_law_gaps_hold := F_law_gaps_hold.binds (ps := ["_law_measure_here", "_law_gaps", "_law_behind", "_law_close"]) fun _ _ _ _ _ _ us hl => match us, hl with | [_, _, _, _], _ => rfl
  have F_law_position := fun_mk (st := s_law_position) l_law_position c_law_position k_law_position
  have b_law_position := F_law_position.binds (ps := ["_law_style", "_law_words", "_law_at"]) fun _ _ _ _ _ _ us hl => match us, hl with | [_, _, _], _ => rfl
  have F_law_way_told := fun_mk (st := s_law_way_told) l_law_way_told c_law_way_told k_law_way_told
  have b_law_way_told := F_law_way_told.binds (ps := ["_law_style", "_law_measure_here", "_law_words", "_law_close", "_law_strips"]) fun _ _ _ _ _ _ us hl => match us, hl with | [_, _, _, _, _], _ => rfl
  have F_law_total := fun_mk (st := s_law_total) l_law_total c_law_total k_law_total
  have b_law_total := F_law_total.binds (ps := ["_law_measure_here", "_law_ladder", "_law_shapes", "_law_way"]) fun _ _ _ _ _ _ us hl => match us, hl with | [_, _, _, _], _ => rfl
  have F_law_holds := fun_mk (st := s_law_holds) l_law_holds c_law_holds k_law_holds
  have b_law_holds := F_law_holds.binds (ps := ["_law_style", "_law_measure_here", "_law_words"]) fun _ _ _ _ _ _ us hl => match us, hl with | [_, _, _], _ => rfl
  have F_law := fun_mk (st := s_law) l_law c_law k_law
  have b_law := F_law.binds (ps := ["_law_script"]) fun _ _ _ _ _ _ us hl => match us, hl with | [_], _ => rfl
  have Fi_TooWide := fun_mk (st := s_TooWide_init) li_TooWide ci_TooWide ki_TooWide
  have bi_TooWide := Fi_TooWide.binds (ps := ["self", "part"]) fun _ _ _ _ _ _ us hl => match us, hl with | [_, _], _ => rfl
  exact ⟨PySem.W.fnOf "law" "law" (defArgs s_law) (defBody s_law) (defScope s_law) .none kV_law dc_law pm_law an_law cd_law ct_law, [(cB, He.tabOf K cB)], spLaw K (He.tabOf K cB), fun p hp => by rw [List.mem_singleton.mp hp]; exact ht_lam, fun p hp => by rw [List.mem_singleton.mp hp]; exact no_lam, fun p hp => by rw [List.mem_singleton.mp hp]; exact PySem.W.codeHd_of_K X hd_lam, fun s v => .of_eq rfl, fun H a ns hl _ hp hS => ⟨a, ns, rfl, hS, hl, fun p hp2 => (by rw [List.mem_singleton.mp hp2]; exact LamX.TabS.nil (hp _ (List.mem_singleton.mpr rfl))), fun _ => rfl⟩, fun base _ _ hB => ok_law (c := cB) (Pt := He.tabOf K cB) (hcode := e_lam) (TB := hB _ (List.mem_singleton.mpr rfl)) (T := {
    a_least_way_along := _,
    d_least_way_along := _,
    D_least_way_along := ⟨F_least_way_along, PySem.W.mg_of X G a_least_way_along, b_least_way_along, ⟨_, _, _, _, _, _, rfl⟩⟩,
    a_bounds_and_tails := _,
    d_bounds_and_tails := _,
    D_bounds_and_tails := ⟨F_bounds_and_tails, PySem.W.mg_of X G a_bounds_and_tails, b_bounds_and_tails, ⟨_, _, _, _, _, _, rfl⟩⟩,
    a_width_of := _,
    d_width_of := _,
    D_width_of := ⟨F_width_of, PySem.W.mg_of X G a_width_of, b_width_of, ⟨_, _, _, _, _, _, rfl⟩⟩,
    a_cut_of := _,
    d_cut_of := _,
    D_cut_of := ⟨F_cut_of, PySem.W.mg_of X G a_cut_of, b_cut_of, ⟨_, _, _, _, _, _, rfl⟩⟩,
    a_break_price := _,
    d_break_price := _,
    D_break_price := ⟨F_break_price, PySem.W.mg_of X G a_break_price, b_break_price, ⟨_, _, _, _, _, _, rfl⟩⟩,
    a_told := _,
    d_told := _,
    D_told := ⟨F_told, PySem.W.mg_of X G a_told, b_told, ⟨_, _, _, _, _, _, rfl⟩⟩,
    a_signs_of := _,
    d_signs_of := _,
    D_signs_of := ⟨F_signs_of, PySem.W.mg_of X G a_signs_of, b_signs_of, ⟨_, _, _, _, _, _, rfl⟩⟩,
    a_signs_between := _,
    d_signs_between := _,
    D_signs_between := ⟨F_signs_between, PySem.W.mg_of X G a_signs_between, b_signs_between, ⟨_, _, _, _, _, _, rfl⟩⟩,
    a_shape_of := _,
    d_shape_of := _,
    D_shape_of := ⟨F_shape_of, PySem.W.mg_of X G a_shape_of, b_shape_of, ⟨_, _, _, _, _, _, rfl⟩⟩,
    a_parting_places := _,
    d_parting_places := _,
    D_parting_places := ⟨F_parting_places, PySem.W.mg_of X G a_parting_places, b_parting_places, ⟨_, _, _, _, _, _, rfl⟩⟩,
    a_piece_width := _,
    d_piece_width := _,
    D_piece_width := ⟨F_piece_width, PySem.W.mg_of X G a_piece_width, b_piece_width, ⟨_, _, _, _, _, _, rfl⟩⟩,
    a_u_piece_width := _,
    d_u_piece_width := _,
    D_u_piece_width := ⟨F_u_piece_width, PySem.W.mg_of X G a_u_piece_width, b_u_piece_width, ⟨_, _, _, _, _, _, rfl⟩⟩,
    a_width_at := _,
    d_width_at := _,
    D_width_at := ⟨F_width_at, PySem.W.mg_of X G a_width_at, b_width_at, ⟨_, _, _, _, _, _, rfl⟩⟩,
    a_positions := _,
    d_positions := _,
    D_positions := ⟨F_positions, PySem.W.mg_of X G a_positions, b_positions, ⟨_, _, _, _, _, _, rfl⟩⟩,
    a_least_lines := _,
    d_least_lines := _,
    D_least_lines := ⟨F_least_lines, PySem.W.mg_of X G a_least_lines, b_least_lines, ⟨_, _, _, _, _, _, rfl⟩⟩,
    a_lines_from := _,
    d_lines_from := _,
    D_lines_from := ⟨F_lines_from, PySem.W.mg_of X G a_lines_from, b_lines_from, ⟨_, _, _, _, _, _, rfl⟩⟩,
    a_ends_from := _,
    d_ends_from := _,
    D_ends_from := ⟨F_ends_from, PySem.W.mg_of X G a_ends_from, b_ends_from, ⟨_, _, _, _, _, _, rfl⟩⟩,
    a_cost := _,
    d_cost := _,
    D_cost := ⟨F_cost, PySem.W.mg_of X G a_cost, b_cost, ⟨_, _, _, _, _, _, rfl⟩⟩,
    a_piece_strip := _,
    d_piece_strip := _,
    D_piece_strip := ⟨F_piece_strip, PySem.W.mg_of X G a_piece_strip, b_piece_strip, ⟨_, _, _, _, _, _, rfl⟩⟩,
    a_plain_strip := _,
    d_plain_strip := _,
    D_plain_strip := ⟨F_plain_strip, PySem.W.mg_of X G a_plain_strip, b_plain_strip, ⟨_, _, _, _, _, _, rfl⟩⟩,
    a_blank_strip := _,
    d_blank_strip := _,
    D_blank_strip := ⟨F_blank_strip, PySem.W.mg_of X G a_blank_strip, b_blank_strip, ⟨_, _, _, _, _, _, rfl⟩⟩,
    a_joined := _,
    d_joined := _,
    D_joined := ⟨F_joined, PySem.W.mg_of X G a_joined, b_joined, ⟨_, _, _, _, _, _, rfl⟩⟩,
    a_placed := _,
    d_placed := _,
    D_placed := ⟨F_placed, PySem.W.mg_of X G a_placed, b_placed, ⟨_, _, _, _, _, _, rfl⟩⟩,
    a_bare := _,
    d_bare := _,
    D_bare := ⟨F_bare, PySem.W.mg_of X G a_bare, b_bare, ⟨_, _, _, _, _, _, rfl⟩⟩,
    a_set_words := _,
    d_set_words := _,
    D_set_words := ⟨F_set_words, PySem.W.mg_of X G a_set_words, (by obtain ⟨ds, h1, h2⟩ := b0_set_words; cases h1; exact h2), b1_set_words⟩,
    a_set_lines := _,
    d_set_lines := _,
    D_set_lines := ⟨F_set_lines, PySem.W.mg_of X G a_set_lines, b_set_lines, ⟨_, _, _, _, _, _, rfl⟩⟩,
    a_pieces_of_line := _,
    d_pieces_of_line := _,
    D_pieces_of_line := ⟨F_pieces_of_line, PySem.W.mg_of X G a_pieces_of_line, b_pieces_of_line, ⟨_, _, _, _, _, _, rfl⟩⟩,
    a_line_strip := _,
    d_line_strip := _,
    D_line_strip := ⟨F_line_strip, PySem.W.mg_of X G a_line_strip, b_line_strip, ⟨_, _, _, _, _, _, rfl⟩⟩,
    a_law_begin := _,
    d_law_begin := _,
    D_law_begin := ⟨F_law_begin, PySem.W.mg_of X G a_law_begin, b_law_begin, ⟨_, _, _, _, _, _, rfl⟩⟩,
    a_law_draw := _,
    d_law_draw := _,
    D_law_draw := ⟨F_law_draw, PySem.W.mg_of X G a_law_draw, b_law_draw, ⟨_, _, _, _, _, _, rfl⟩⟩,
    a_law_pick := _,
    d_law_pick := _,
    D_law_pick := ⟨F_law_pick, PySem.W.mg_of X G a_law_pick, b_law_pick, ⟨_, _, _, _, _, _, rfl⟩⟩,
    a_law_rare := _,
    d_law_rare := _,
    D_law_rare := ⟨F_law_rare, PySem.W.mg_of X G a_law_rare, b_law_rare, ⟨_, _, _, _, _, _, rfl⟩⟩,
    a_law_piece := _,
    d_law_piece := _,
    D_law_piece := ⟨F_law_piece, PySem.W.mg_of X G a_law_piece, b_law_piece, ⟨_, _, _, _, _, _, rfl⟩⟩,
    a_law_places := _,
    d_law_places := _,
    D_law_places := ⟨F_law_places, PySem.W.mg_of X G a_law_places, b_law_places, ⟨_, _, _, _, _, _, rfl⟩⟩,
    a_law_shape := _,
    d_law_shape := _,
    D_law_shape := ⟨F_law_shape, PySem.W.mg_of X G a_law_shape, b_law_shape, ⟨_, _, _, _, _, _, rfl⟩⟩,
    a_law_piece_width := _,
    d_law_piece_width := _,
    D_law_piece_width := ⟨F_law_piece_width, PySem.W.mg_of X G a_law_piece_width, b_law_piece_width, ⟨_, _, _, _, _, _, rfl⟩⟩,
    a_law_natural := _,
    d_law_natural := _,
    D_law_natural := ⟨F_law_natural, PySem.W.mg_of X G a_law_natural, b_law_natural, ⟨_, _, _, _, _, _, rfl⟩⟩,
    a_law_positions := _,
    d_law_positions := _,
    D_law_positions := ⟨F_law_positions, PySem.W.mg_of X G a_law_positions, b_law_positions, ⟨_, _, _, _, _, _, rfl⟩⟩,
    a_law_line_cost := _,
    d_law_line_cost := _,
    D_law_line_cost := ⟨F_law_line_cost, PySem.W.mg_of X G a_law_line_cost, b_law_line_cost, ⟨_, _, _, _, _, _, rfl⟩⟩,
    a_law_lines := _,
    d_law_lines := _,
    D_law_lines := ⟨F_law_lines, PySem.W.mg_of X G a_law_lines, b_law_lines, ⟨_, _, _, _, _, _, rfl⟩⟩,
    a_law_drawn_words := _,
    d_law_drawn_words := _,
    D_law_drawn_words := ⟨F_law_drawn_words, PySem.W.mg_of X G a_law_drawn_words, b_law_drawn_words, ⟨_, _, _, _, _, _, rfl⟩⟩,
    a_law_style_for := _,
    d_law_style_for := _,
    D_law_style_for := ⟨F_law_style_for, PySem.W.mg_of X G a_law_style_for, b_law_style_for, ⟨_, _, _, _, _, _, rfl⟩⟩,
    a_law_measure := _,
    d_law_measure := _,
    D_law_measure := ⟨F_law_measure, PySem.W.mg_of X G a_law_measure, b_law_measure, ⟨_, _, _, _, _, _, rfl⟩⟩,
    a_law_asked := _,
    d_law_asked := _,
    D_law_asked := ⟨F_law_asked, PySem.W.mg_of X G a_law_asked, b_law_asked, ⟨_, _, _, _, _, _, rfl⟩⟩,
    a_law_runs := _,
    d_law_runs := _,
    D_law_runs := ⟨F_law_runs, PySem.W.mg_of X G a_law_runs, b_law_runs, ⟨_, _, _, _, _, _, rfl⟩⟩,
    a_law_piece_end := _,
    d_law_piece_end := _,
    D_law_piece_end := ⟨F_law_piece_end, PySem.W.mg_of X G a_law_piece_end, b_law_piece_end, ⟨_, _, _, _, _, _, rfl⟩⟩,
    a_law_line_read := _,
    d_law_line_read := _,
    D_law_line_read := ⟨F_law_line_read, PySem.W.mg_of X G a_law_line_read, b_law_line_read, ⟨_, _, _, _, _, _, rfl⟩⟩,
    a_law_gaps_hold := _,
    d_law_gaps_hold := _,
    D_law_gaps_hold := ⟨F_law_gaps_hold, PySem.W.mg_of X G a_law_gaps_hold, b_law_gaps_hold, ⟨_, _, _, _, _, _, rfl⟩⟩,
    a_law_position := _,
    d_law_position := _,
    D_law_position := ⟨F_law_position, PySem.W.mg_of X G a_law_position, b_law_position, ⟨_, _, _, _, _, _, rfl⟩⟩,
    a_law_way_told := _,
    d_law_way_told := _,
    D_law_way_told := ⟨F_law_way_told, PySem.W.mg_of X G a_law_way_told, b_law_way_told, ⟨_, _, _, _, _, _, rfl⟩⟩,
    a_law_total := _,
    d_law_total := _,
    D_law_total := ⟨F_law_total, PySem.W.mg_of X G a_law_total, b_law_total, ⟨_, _, _, _, _, _, rfl⟩⟩,
    a_law_holds := _,
    d_law_holds := _,
    D_law_holds := ⟨F_law_holds, PySem.W.mg_of X G a_law_holds, b_law_holds, ⟨_, _, _, _, _, _, rfl⟩⟩,
    a_law := _,
    d_law := _,
    D_law := ⟨F_law, PySem.W.mg_of X G a_law, b_law, ⟨_, _, _, _, _, _, rfl⟩⟩,
    t_HYPHEN := _,
    m_HYPHEN := PySem.W.mg_of X G m_HYPHEN,
    t_FILLER := _,
    m_FILLER := PySem.W.mg_of X G m_FILLER,
    t_COVER := _,
    m_COVER := PySem.W.mg_of X G m_COVER,
    t_BLANK := _,
    m_BLANK := PySem.W.mg_of X G m_BLANK,
    n_all := PySem.W.mg_none_of X G n_all,
    n_enumerate := PySem.W.mg_none_of X G n_enumerate,
    n_int := PySem.W.mg_none_of X G n_int,
    n_isinstance := PySem.W.mg_none_of X G n_isinstance,
    n_len := PySem.W.mg_none_of X G n_len,
    n_list := PySem.W.mg_none_of X G n_list,
    n_max := PySem.W.mg_none_of X G n_max,
    n_min := PySem.W.mg_none_of X G n_min,
    n_range := PySem.W.mg_none_of X G n_range,
    n_sorted := PySem.W.mg_none_of X G n_sorted,
    n_str := PySem.W.mg_none_of X G n_str,
    n_sum := PySem.W.mg_none_of X G n_sum,
    n_tuple := PySem.W.mg_none_of X G n_tuple,
    n_zip := PySem.W.mg_none_of X G n_zip,
    c_PagesError := _,
    C_PagesError := ⟨PySem.W.mg_of X G g_PagesError, ic_PagesError, ty_PagesError⟩,
    c_LimitError := _,
    C_LimitError := ⟨PySem.W.mg_of X G g_LimitError, ic_LimitError, ty_LimitError⟩,
    c_TooWide := _,
    C_TooWide := ⟨PySem.W.mg_of X G g_TooWide, ic_TooWide, ty_TooWide⟩,
    i_TooWide := _,
    d_TooWide := _,
    E_TooWide := ⟨PySem.W.mg_of X G g_TooWide, ⟨⟨_, _, _, _, _, _, _, _, _, _, _, _, _, _, _, xL_TooWide, rv_TooWide⟩, sa_TooWide, ex_TooWide, ty_TooWide, kp_TooWide⟩, ⟨ga_TooWide, gg_TooWide, ex_TooWide, hd_TooWide, ha_TooWide, o_hn, o_ht, hm_TooWide⟩, ⟨ga_TooWide, gg_TooWide, ex_TooWide, hd_TooWide⟩, ii_TooWide, ti_TooWide, Fi_TooWide, bi_TooWide, fun f hf => by simp only [List.mem_cons, List.not_mem_nil, or_false] at hf; subst hf; exact no_TooWide_part⟩,
    k_TooWide_PagesError := kit_ref sb_TooWide_TooWide ic_PagesError ty_PagesError sb_TooWide_PagesError,
    k_TooWide_LimitError := kit_ref sb_TooWide_TooWide ic_LimitError ty_LimitError sb_TooWide_LimitError,
    k_TooWide_TooWide := kit_ref sb_TooWide_TooWide ic_TooWide ty_TooWide sb_TooWide_TooWide,
    v_TooWide := kit_typ vs_TooWide,
    x_TooWide := exm_ref bx_PagesError ic_PagesError ty_PagesError sb_TooWide_PagesError,
    y_TooWide := exm_ref ex_TooWide ic_TooWide ty_TooWide sb_TooWide_TooWide })⟩
end Vf
open PySem PySem.W PyProof.Rows
set_option maxHeartbeats 0 in
theorem PySem.Challenge.cw_hushedpages_k25_whole_rows_hold_holds : PySem.Challenge.rw_hushedpages_k25_whole_rows_hold.Holds := by
  w_on; o_law; k_head; (case hw => w_witness2)
  k_fill
  refine LamX.walk_ofTs (l := PySem.Challenge.rw_hushedpages_k25_whole_rows_hold) (n := 63) (k := 12) (x := "_law_script") (CX := fun _ => L2.CX0) rfl (by decide) rfl ⟨rfl, by decide, by decide⟩ (fun w h Y => PySem.W.km_in_of Y) ?F (fun _ _ _ _ _ h => h)
  case F =>
    intro w mg fa h Y KX G hmg
    have hTs := PySem.W.km_tabs_of Y
    refine' Vf.all_mk KX G hmg ?a_least_way_along ?l_least_way_along ?c_least_way_along ?k_least_way_along ?a_bounds_and_tails ?l_bounds_and_tails ?c_bounds_and_tails ?k_bounds_and_tails ?a_width_of ?l_width_of ?c_width_of ?k_width_of ?a_cut_of ?l_cut_of ?c_cut_of ?k_cut_of ?a_break_price ?l_break_price ?c_break_price ?k_break_price ?a_told ?l_told ?c_told ?k_told ?a_signs_of ?l_signs_of ?c_signs_of ?k_signs_of ?a_signs_between ?l_signs_between ?c_signs_between ?k_signs_between ?a_shape_of ?l_shape_of ?c_shape_of ?k_shape_of ?a_parting_places ?l_parting_places ?c_parting_places ?k_parting_places ?a_piece_width ?l_piece_width ?c_piece_width ?k_piece_width ?a_u_piece_width ?l_u_piece_width ?c_u_piece_width ?k_u_piece_width ?a_width_at ?l_width_at ?c_width_at ?k_width_at ?a_positions ?l_positions ?c_positions ?k_positions ?a_least_lines ?l_least_lines ?c_least_lines ?k_least_lines ?a_lines_from ?l_lines_from ?c_lines_from ?k_lines_from ?a_ends_from ?l_ends_from ?c_ends_from ?k_ends_from ?a_cost ?l_cost ?c_cost ?k_cost ?a_piece_strip ?l_piece_strip ?c_piece_strip ?k_piece_strip ?a_plain_strip ?l_plain_strip ?c_plain_strip ?k_plain_strip ?a_blank_strip ?l_blank_strip ?c_blank_strip ?k_blank_strip ?a_joined ?l_joined ?c_joined ?k_joined ?a_placed ?l_placed ?c_placed ?k_placed ?a_bare ?l_bare ?c_bare ?k_bare ?a_set_words ?l_set_words ?c_set_words ?k_set_words ?lD_set_words ?tv_D_set_words ?a_set_lines ?l_set_lines ?c_set_lines ?k_set_lines ?a_pieces_of_line ?l_pieces_of_line ?c_pieces_of_line ?k_pieces_of_line ?a_line_strip ?l_line_strip ?c_line_strip ?k_line_strip ?a_law_begin ?l_law_begin ?c_law_begin ?k_law_begin ?a_law_draw ?l_law_draw ?c_law_draw ?k_law_draw ?a_law_pick ?l_law_pick ?c_law_pick ?k_law_pick ?a_law_rare ?l_law_rare ?c_law_rare ?k_law_rare ?a_law_piece ?l_law_piece ?c_law_piece ?k_law_piece ?a_law_places ?l_law_places ?c_law_places ?k_law_places ?a_law_shape ?l_law_shape ?c_law_shape ?k_law_shape ?a_law_piece_width ?l_law_piece_width ?c_law_piece_width ?k_law_piece_width ?a_law_natural ?l_law_natural ?c_law_natural ?k_law_natural ?a_law_positions ?l_law_positions ?c_law_positions ?k_law_positions ?a_law_line_cost ?l_law_line_cost ?c_law_line_cost ?k_law_line_cost ?a_law_lines ?l_law_lines ?c_law_lines ?k_law_lines ?a_law_drawn_words ?l_law_drawn_words ?c_law_drawn_words ?k_law_drawn_words ?a_law_style_for ?l_law_style_for ?c_law_style_for ?k_law_style_for ?a_law_measure ?l_law_measure ?c_law_measure ?k_law_measure ?a_law_asked ?l_law_asked ?c_law_asked ?k_law_asked ?a_law_runs ?l_law_runs ?c_law_runs ?k_law_runs ?a_law_piece_end ?l_law_piece_end ?c_law_piece_end ?k_law_piece_end ?a_law_line_read ?l_law_line_read ?c_law_line_read ?k_law_line_read ?a_law_gaps_hold ?l_law_gaps_hold ?c_law_gaps_hold ?k_law_gaps_hold ?a_law_position ?l_law_position ?c_law_position ?k_law_position ?a_law_way_told ?l_law_way_told ?c_law_way_told ?k_law_way_told ?a_law_total ?l_law_total ?c_law_total ?k_law_total ?a_law_holds ?l_law_holds ?c_law_holds ?k_law_holds ?a_law ?l_law ?c_law ?k_law ?m_HYPHEN ?m_FILLER ?m_COVER ?m_BLANK ?n_all ?n_enumerate ?n_int ?n_isinstance ?n_len ?n_list ?n_max ?n_min ?n_range ?n_sorted ?n_str ?n_sum ?n_tuple ?n_zip ?g_PagesError ?ic_PagesError ?ty_PagesError ?g_LimitError ?ic_LimitError ?ty_LimitError ?g_TooWide ?ic_TooWide ?ty_TooWide ?bx_PagesError ?o_hn ?o_ht ?xL_TooWide ?rv_TooWide ?sa_TooWide ?ga_TooWide ?gg_TooWide ?ex_TooWide ?kp_TooWide ?hd_TooWide ?ha_TooWide ?hm_TooWide ?vs_TooWide ?no_TooWide_part ?sb_TooWide_PagesError ?sb_TooWide_LimitError ?sb_TooWide_TooWide ?ii_TooWide ?ti_TooWide ?li_TooWide ?ci_TooWide ?ki_TooWide ?e_lam ?hd_lam ?no_lam ?ht_lam
    (case a_least_way_along => k_is)
    (case l_least_way_along => k_is)
    (case c_least_way_along => k_is)
    (case k_least_way_along => k_is)
    (case a_bounds_and_tails => k_is)
    (case l_bounds_and_tails => k_is)
    (case c_bounds_and_tails => k_is)
    (case k_bounds_and_tails => k_is)
    (case a_width_of => k_is)
    (case l_width_of => k_is)
    (case c_width_of => k_is)
    (case k_width_of => k_is)
    (case a_cut_of => k_is)
    (case l_cut_of => k_is)
    (case c_cut_of => k_is)
    (case k_cut_of => k_is)
    (case a_break_price => k_is)
    (case l_break_price => k_is)
    (case c_break_price => k_is)
    (case k_break_price => k_is)
    (case a_told => k_is)
    (case l_told => k_is)
    (case c_told => k_is)
    (case k_told => k_is)
    (case a_signs_of => k_is)
    (case l_signs_of => k_is)
    (case c_signs_of => k_is)
    (case k_signs_of => k_is)
    (case a_signs_between => k_is)
    (case l_signs_between => k_is)
    (case c_signs_between => k_is)
    (case k_signs_between => k_is)
    (case a_shape_of => k_is)
    (case l_shape_of => k_is)
    (case c_shape_of => k_is)
    (case k_shape_of => k_is)
    (case a_parting_places => k_is)
    (case l_parting_places => k_is)
    (case c_parting_places => k_is)
    (case k_parting_places => k_is)
    (case a_piece_width => k_is)
    (case l_piece_width => k_is)
    (case c_piece_width => k_is)
    (case k_piece_width => k_is)
    (case a_u_piece_width => k_is)
    (case l_u_piece_width => k_is)
    (case c_u_piece_width => k_is)
    (case k_u_piece_width => k_is)
    (case a_width_at => k_is)
    (case l_width_at => k_is)
    (case c_width_at => k_is)
    (case k_width_at => k_is)
    (case a_positions => k_is)
    (case l_positions => k_is)
    (case c_positions => k_is)
    (case k_positions => k_is)
    (case a_least_lines => k_is)
    (case l_least_lines => k_is)
    (case c_least_lines => k_is)
    (case k_least_lines => k_is)
    (case a_lines_from => k_is)
    (case l_lines_from => k_is)
    (case c_lines_from => k_is)
    (case k_lines_from => k_is)
    (case a_ends_from => k_is)
    (case l_ends_from => k_is)
    (case c_ends_from => k_is)
    (case k_ends_from => k_is)
    (case a_cost => k_is)
    (case l_cost => k_is)
    (case c_cost => k_is)
    (case k_cost => k_is)
    (case a_piece_strip => k_is)
    (case l_piece_strip => k_is)
    (case c_piece_strip => k_is)
    (case k_piece_strip => k_is)
    (case a_plain_strip => k_is)
    (case l_plain_strip => k_is)
    (case c_plain_strip => k_is)
    (case k_plain_strip => k_is)
    (case a_blank_strip => k_is)
    (case l_blank_strip => k_is)
    (case c_blank_strip => k_is)
    (case k_blank_strip => k_is)
    (case a_joined => k_is)
    (case l_joined => k_is)
    (case c_joined => k_is)
    (case k_joined => k_is)
    (case a_placed => k_is)
    (case l_placed => k_is)
    (case c_placed => k_is)
    (case k_placed => k_is)
    (case a_bare => k_is)
    (case l_bare => k_is)
    (case c_bare => k_is)
    (case k_bare => k_is)
    (case a_set_words => k_is)
    (case l_set_words => k_is)
    (case c_set_words => k_is)
    (case k_set_words => k_is)
    (case lD_set_words => k_is)
    (case tv_D_set_words => exact .cons rfl .nil)
    (case a_set_lines => k_is)
    (case l_set_lines => k_is)
    (case c_set_lines => k_is)
    (case k_set_lines => k_is)
    (case a_pieces_of_line => k_is)
    (case l_pieces_of_line => k_is)
    (case c_pieces_of_line => k_is)
    (case k_pieces_of_line => k_is)
    (case a_line_strip => k_is)
    (case l_line_strip => k_is)
    (case c_line_strip => k_is)
    (case k_line_strip => k_is)
    (case a_law_begin => k_is)
    (case l_law_begin => k_is)
    (case c_law_begin => k_is)
    (case k_law_begin => k_is)
    (case a_law_draw => k_is)
    (case l_law_draw => k_is)
    (case c_law_draw => k_is)
    (case k_law_draw => k_is)
    (case a_law_pick => k_is)
    (case l_law_pick => k_is)
    (case c_law_pick => k_is)
    (case k_law_pick => k_is)
    (case a_law_rare => k_is)
    (case l_law_rare => k_is)
    (case c_law_rare => k_is)
    (case k_law_rare => k_is)
    (case a_law_piece => k_is)
    (case l_law_piece => k_is)
    (case c_law_piece => k_is)
    (case k_law_piece => k_is)
    (case a_law_places => k_is)
    (case l_law_places => k_is)
    (case c_law_places => k_is)
    (case k_law_places => k_is)
    (case a_law_shape => k_is)
    (case l_law_shape => k_is)
    (case c_law_shape => k_is)
    (case k_law_shape => k_is)
    (case a_law_piece_width => k_is)
    (case l_law_piece_width => k_is)
    (case c_law_piece_width => k_is)
    (case k_law_piece_width => k_is)
    (case a_law_natural => k_is)
    (case l_law_natural => k_is)
    (case c_law_natural => k_is)
    (case k_law_natural => k_is)
    (case a_law_positions => k_is)
    (case l_law_positions => k_is)
    (case c_law_positions => k_is)
    (case k_law_positions => k_is)
    (case a_law_line_cost => k_is)
    (case l_law_line_cost => k_is)
    (case c_law_line_cost => k_is)
    (case k_law_line_cost => k_is)
    (case a_law_lines => k_is)
    (case l_law_lines => k_is)
    (case c_law_lines => k_is)
    (case k_law_lines => k_is)
    (case a_law_drawn_words => k_is)
    (case l_law_drawn_words => k_is)
    (case c_law_drawn_words => k_is)
    (case k_law_drawn_words => k_is)
    (case a_law_style_for => k_is)
    (case l_law_style_for => k_is)
    (case c_law_style_for => k_is)
    (case k_law_style_for => k_is)
    (case a_law_measure => k_is)
    (case l_law_measure => k_is)
    (case c_law_measure => k_is)
    (case k_law_measure => k_is)
    (case a_law_asked => k_is)
    (case l_law_asked => k_is)
    (case c_law_asked => k_is)
    (case k_law_asked => k_is)
    (case a_law_runs => k_is)
    (case l_law_runs => k_is)
    (case c_law_runs => k_is)
    (case k_law_runs => k_is)
    (case a_law_piece_end => k_is)
    (case l_law_piece_end => k_is)
    (case c_law_piece_end => k_is)
    (case k_law_piece_end => k_is)
    (case a_law_line_read => k_is)
    (case l_law_line_read => k_is)
    (case c_law_line_read => k_is)
    (case k_law_line_read => k_is)
    (case a_law_gaps_hold => k_is)
    (case l_law_gaps_hold => k_is)
    (case c_law_gaps_hold => k_is)
    (case k_law_gaps_hold => k_is)
    (case a_law_position => k_is)
    (case l_law_position => k_is)
    (case c_law_position => k_is)
    (case k_law_position => k_is)
    (case a_law_way_told => k_is)
    (case l_law_way_told => k_is)
    (case c_law_way_told => k_is)
    (case k_law_way_told => k_is)
    (case a_law_total => k_is)
    (case l_law_total => k_is)
    (case c_law_total => k_is)
    (case k_law_total => k_is)
    (case a_law_holds => k_is)
    (case l_law_holds => k_is)
    (case c_law_holds => k_is)
    (case k_law_holds => k_is)
    (case a_law => k_is)
    (case l_law => k_is)
    (case c_law => k_is)
    (case k_law => k_is)
    (case m_HYPHEN => k_is)
    (case m_FILLER => k_is)
    (case m_COVER => k_is)
    (case m_BLANK => k_is)
    (case n_all => k_is)
    (case n_enumerate => k_is)
    (case n_int => k_is)
    (case n_isinstance => k_is)
    (case n_len => k_is)
    (case n_list => k_is)
    (case n_max => k_is)
    (case n_min => k_is)
    (case n_range => k_is)
    (case n_sorted => k_is)
    (case n_str => k_is)
    (case n_sum => k_is)
    (case n_tuple => k_is)
    (case n_zip => k_is)
    (case g_PagesError => k_is)
    (case ic_PagesError => k_is)
    (case ty_PagesError => k_is)
    (case g_LimitError => k_is)
    (case ic_LimitError => k_is)
    (case ty_LimitError => k_is)
    (case g_TooWide => k_is)
    (case ic_TooWide => k_is)
    (case ty_TooWide => k_is)
    (case bx_PagesError => k_is)
    (case o_hn => k_is)
    (case o_ht => k_is)
    (case xL_TooWide => k_is)
    (case rv_TooWide => first | rfl | decide +kernel)
    (case sa_TooWide => k_is)
    (case ga_TooWide => k_is)
    (case gg_TooWide => k_is)
    (case ex_TooWide => k_is)
    (case kp_TooWide => k_is)
    (case hd_TooWide => k_is)
    (case ha_TooWide => k_is)
    (case hm_TooWide => k_is)
    (case vs_TooWide => k_is)
    (case no_TooWide_part => k_is)
    (case sb_TooWide_PagesError => k_is)
    (case sb_TooWide_LimitError => k_is)
    (case sb_TooWide_TooWide => k_is)
    (case ii_TooWide => k_is)
    (case ti_TooWide => k_is)
    (case li_TooWide => k_is)
    (case ci_TooWide => k_is)
    (case ki_TooWide => k_is)
    (case e_lam => exact rfl)
    (case hd_lam => kernel_rfl)
    (case no_lam => kernel_rfl)
    (case ht_lam => exact hTs _ (List.mem_of_elem_eq_true (by kernel_rfl)))
