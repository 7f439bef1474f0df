import PyProof.Rows.All
import Wide.All
import OpenK.AllK
import Wide.FinOn
import HandS.ForMost
import HandS.IsInst
import HandS.Conv
import HandS.Evl
import PyProof.StrBlock2
import HandS.ExcInit
import HandS.ExcIs
import HandS.ExcField
import HandS.Wide
import HandS.TupSets
import HandS.DictTup
import HandS.More
import HandS.Walk
import HandS.DictComp
import KE.KDictDisplayH
import HandS.TupAny
import KE.GoesEnum
import HandS.Comp
import HandS.SetBool
import HandS.Strs
import HandS.Deep
import HandS.StrMore
import HandS.Lambda
import HandS.ForExc
import HandS.HotCalls
import HandS.WordsExc
import HandS.ExcCtx
import HandS.Style
import KE.DataCmp
import KE.SortData
import HandS.Flow
import HandS.TupLe
import HandS.EndTab
import HandS.HeadHook4
import PySem.Challenge.RW_hushedpages_k23_whole_lines_paper
set_option Elab.async false
set_option linter.all false
set_option maxRecDepth 100000
set_option maxHeartbeats 4000000
namespace Vf
open PySem PySem.Spec PyProof.Rows L2
def topS (i : Nat) : Stmt := PySem.Challenge.pw_hushedpages_k23_whole_lines_paper.main.body.getD i (.Pass ⟨0, 0, 0, 0⟩)
abbrev s_bounds_of : Stmt := topS 1
theorem sc_bounds_of : FnScope ["net", "leading", "nodes", "bounds", "node"] ["net"] (defScope s_bounds_of) := ⟨rfl, rfl, rfl, by decide +kernel, rfl, by decide +kernel, by decide +kernel⟩
abbrev s_judge_bounds : Stmt := topS 2
theorem sc_judge_bounds : FnScope ["net", "total", "bounds", "many", "arcs", "tail", "head", "cost"] ["net", "total", "bounds"] (defScope s_judge_bounds) := ⟨rfl, rfl, rfl, by decide +kernel, rfl, by decide +kernel, by decide +kernel⟩
abbrev s_least_way_along : Stmt := topS 3
theorem sc_least_way_along : FnScope ["places", "leads", "bounds", "tails", "way"] ["places", "leads"] (defScope s_least_way_along) := ⟨rfl, rfl, rfl, by decide +kernel, rfl, by decide +kernel, by decide +kernel⟩
abbrev s_leading : Stmt := topS 4
theorem sc_leading : FnScope ["net", "many", "arcs", "leading", "tail", "head", "cost", "_"] ["net"] (defScope s_leading) := ⟨rfl, rfl, rfl, by decide +kernel, rfl, by decide +kernel, by decide +kernel⟩
abbrev s_bounds_and_tails : Stmt := topS 5
theorem sc_bounds_and_tails : FnScope ["places", "leads", "bounds", "tails", "tail", "head", "cost", "total"] ["places", "leads"] (defScope s_bounds_and_tails) := ⟨rfl, rfl, rfl, by decide +kernel, rfl, by decide +kernel, by decide +kernel⟩
abbrev s_piece_width : Stmt := topS 11
theorem sc_piece_width : FnScope ["shape", "first", "last", "width", "partings"] ["shape", "first", "last"] (defScope s_piece_width) := ⟨rfl, rfl, rfl, by decide +kernel, rfl, by decide +kernel, by decide +kernel⟩
abbrev s_positions : Stmt := topS 13
theorem sc_positions : FnScope ["shapes", "found", "at", "_", "partings", "parting"] ["shapes"] (defScope s_positions) := ⟨rfl, rfl, rfl, by decide +kernel, rfl, by decide +kernel, by decide +kernel⟩
abbrev s_line_net : Stmt := topS 14
theorem sc_line_net : FnScope ["measure", "ladder", "shapes", "places", "numbers", "arcs", "tail", "begin", "number", "place", "end", "cost"] ["measure", "ladder", "shapes"] (defScope s_line_net) := ⟨rfl, rfl, rfl, by decide +kernel, rfl, by decide +kernel, by decide +kernel⟩
abbrev s_least_lines : Stmt := topS 15
theorem sc_least_lines : FnScope ["measure", "ladder", "shapes", "least", "begin"] ["measure", "ladder", "shapes"] (defScope s_least_lines) := ⟨rfl, rfl, rfl, by decide +kernel, rfl, by decide +kernel, by decide +kernel⟩
abbrev s_lines_from : Stmt := topS 16
theorem sc_lines_from : FnScope ["measure", "ladder", "shapes", "begin", "ends", "end", "width"] ["measure", "ladder", "shapes", "begin"] (defScope s_lines_from) := ⟨rfl, rfl, rfl, by decide +kernel, rfl, by decide +kernel, by decide +kernel⟩
abbrev s_ends_from : Stmt := topS 17
theorem sc_ends_from : FnScope ["measure", "shapes", "begin", "first", "parting", "found", "ahead", "at", "last", "width"] ["measure", "shapes", "begin"] (defScope s_ends_from) := ⟨rfl, rfl, rfl, by decide +kernel, rfl, by decide +kernel, by decide +kernel⟩
abbrev s_cost : Stmt := topS 18
theorem sc_cost : FnScope ["measure", "ladder", "shapes", "begin", "end", "width", "cost", "at", "parting"] ["measure", "ladder", "shapes", "begin", "end", "width"] (defScope s_cost) := ⟨rfl, rfl, rfl, by decide +kernel, rfl, by decide +kernel, by decide +kernel⟩
abbrev s_law_begin : Stmt := topS 20
theorem sc_law_begin : FnScope ["_law_script"] ["_law_script"] (defScope s_law_begin) := ⟨rfl, rfl, rfl, by decide +kernel, rfl, by decide +kernel, by decide +kernel⟩
abbrev s_law_draw : Stmt := topS 21
theorem sc_law_draw : FnScope ["_law_d", "_law_many", "_law_cell", "_law_found"] ["_law_d", "_law_many"] (defScope s_law_draw) := ⟨rfl, rfl, rfl, by decide +kernel, rfl, by decide +kernel, by decide +kernel⟩
abbrev s_law_pick : Stmt := topS 22
theorem sc_law_pick : FnScope ["_law_d", "_law_row"] ["_law_d", "_law_row"] (defScope s_law_pick) := ⟨rfl, rfl, rfl, by decide +kernel, rfl, by decide +kernel, by decide +kernel⟩
abbrev s_law_rare : Stmt := topS 23
theorem sc_law_rare : FnScope ["_law_d", "_law_many"] ["_law_d", "_law_many"] (defScope s_law_rare) := ⟨rfl, rfl, rfl, by decide +kernel, rfl, by decide +kernel, by decide +kernel⟩
abbrev s_law_piece : Stmt := topS 24
theorem sc_law_piece : FnScope ["_law_style", "_law_word", "_law_first", "_law_behind", "_law_signs", "_law_k", "_law_wide", "_law_one", "_law_w", "_law_two", "_law_cut"] ["_law_style", "_law_word", "_law_first", "_law_behind"] (defScope s_law_piece) := ⟨rfl, rfl, rfl, by decide +kernel, rfl, by decide +kernel, by decide +kernel⟩
abbrev s_law_places : Stmt := topS 25
theorem sc_law_places : FnScope ["_law_style", "_law_word", "_law_found", "_law_k", "_law_one", "_law_two", "_law_price"] ["_law_style", "_law_word"] (defScope s_law_places) := ⟨rfl, rfl, rfl, by decide +kernel, rfl, by decide +kernel, by decide +kernel⟩
abbrev s_law_shape : Stmt := topS 26
theorem sc_law_shape : FnScope ["_law_style", "_law_word", "_law_partings", "_law_k", "_law_price", "_law_left"] ["_law_style", "_law_word"] (defScope s_law_shape) := ⟨rfl, rfl, rfl, by decide +kernel, rfl, by decide +kernel, by decide +kernel⟩
abbrev s_law_piece_width : Stmt := topS 27
theorem sc_law_piece_width : FnScope ["_law_shape_here", "_law_first", "_law_last", "_law_left"] ["_law_shape_here", "_law_first", "_law_last"] (defScope s_law_piece_width) := ⟨rfl, rfl, rfl, by decide +kernel, rfl, by decide +kernel, by decide +kernel⟩
abbrev s_law_natural : Stmt := topS 28
theorem sc_law_natural : FnScope ["_law_shapes", "_law_start", "_law_end", "_law_i", "_law_k", "_law_j", "_law_m", "_law_total", "_law_word"] ["_law_shapes", "_law_start", "_law_end"] (defScope s_law_natural) := ⟨rfl, rfl, rfl, by decide +kernel, rfl, by decide +kernel, by decide +kernel⟩
abbrev s_law_positions : Stmt := topS 29
theorem sc_law_positions : FnScope ["_law_shapes", "_law_found", "_law_i", "_law_k"] ["_law_shapes"] (defScope s_law_positions) := ⟨rfl, rfl, rfl, by decide +kernel, rfl, by decide +kernel, by decide +kernel⟩
abbrev s_law_line_cost : Stmt := topS 30
theorem sc_law_line_cost : FnScope ["_law_measure_here", "_law_ladder", "_law_shapes", "_law_start", "_law_end", "_law_natural_here", "_law_cost"] ["_law_measure_here", "_law_ladder", "_law_shapes", "_law_start", "_law_end"] (defScope s_law_line_cost) := ⟨rfl, rfl, rfl, by decide +kernel, rfl, by decide +kernel, by decide +kernel⟩
abbrev s_law_exact : Stmt := topS 31
theorem sc_law_exact : FnScope ["_law_told", "_law_due", "_law_k"] ["_law_told", "_law_due"] (defScope s_law_exact) := ⟨rfl, rfl, rfl, by decide +kernel, rfl, by decide +kernel, by decide +kernel⟩
abbrev s_law_drawn_words : Stmt := topS 32
theorem sc_law_drawn_words : FnScope ["_law_d", "_law_signs", "_law_kind", "_law_many", "_law_longest", "_law_words", "_law_k", "_law_long", "_law_n"] ["_law_d"] (defScope s_law_drawn_words) := ⟨rfl, rfl, rfl, by decide +kernel, rfl, by decide +kernel, by decide +kernel⟩
abbrev s_law_style_for : Stmt := topS 33
theorem sc_law_style_for : FnScope ["_law_d", "_law_words", "_law_steep", "_law_wide", "_law_sign", "_law_cuts", "_law_breaks", "_law_dear", "_law_word", "_law_k", "_law_pair", "_law_widths", "_law_cut_rows", "_law_break_rows", "_law_prices"] ["_law_d", "_law_words"] (defScope s_law_style_for) := ⟨rfl, rfl, rfl, by decide +kernel, rfl, by decide +kernel, by decide +kernel⟩
abbrev s_law_measure : Stmt := topS 34
theorem sc_law_measure : FnScope ["_law_d", "_law_shapes", "_law_widest", "_law_total", "_law_places_here", "_law_first", "_law_behind", "_law_line", "_law_more", "_law_menu", "_law_shape_here"] ["_law_d", "_law_shapes"] (defScope s_law_measure) := ⟨rfl, rfl, rfl, by decide +kernel, rfl, by decide +kernel, by decide +kernel⟩
abbrev s_law_arcs : Stmt := topS 35
theorem sc_law_arcs : FnScope ["_law_measure_here", "_law_ladder", "_law_shapes", "_law_places_here", "_law_rows", "_law_a", "_law_row", "_law_b", "_law_cost"] ["_law_measure_here", "_law_ladder", "_law_shapes"] (defScope s_law_arcs) := ⟨rfl, rfl, rfl, by decide +kernel, rfl, by decide +kernel, by decide +kernel⟩
abbrev s_law_least_prices : Stmt := topS 36
theorem sc_law_least_prices : FnScope ["_law_rows", "_law_found", "_law_a", "_law_b", "_law_cost"] ["_law_rows"] (defScope s_law_least_prices) := ⟨rfl, rfl, rfl, by decide +kernel, rfl, by decide +kernel, by decide +kernel⟩
abbrev s_law_totals : Stmt := topS 37
theorem sc_law_totals : FnScope ["_law_rows", "_law_least", "_law_found", "_law_waiting", "_law_total", "_law_node", "_law_head", "_law_cost"] ["_law_rows", "_law_least"] (defScope s_law_totals) := ⟨rfl, rfl, rfl, by decide +kernel, rfl, by decide +kernel, by decide +kernel⟩
abbrev s_law_is_paper : Stmt := topS 38
theorem sc_law_is_paper : FnScope ["_law_rows", "_law_total", "_law_paper", "_law_a", "_law_b", "_law_cost"] ["_law_rows", "_law_total", "_law_paper"] (defScope s_law_is_paper) := ⟨rfl, rfl, rfl, by decide +kernel, rfl, by decide +kernel, by decide +kernel⟩
abbrev s_law_bent_paper : Stmt := topS 39
theorem sc_law_bent_paper : FnScope ["_law_d", "_law_right", "_law_paper", "_law_kind", "_law_at", "_law_some", "_law_more", "_law_one", "_law_k"] ["_law_d", "_law_right"] (defScope s_law_bent_paper) := ⟨rfl, rfl, rfl, by decide +kernel, rfl, by decide +kernel, by decide +kernel⟩
abbrev s_law_told_total : Stmt := topS 40
theorem sc_law_told_total : FnScope ["_law_measure_here", "_law_ladder", "_law_shapes", "_law_lines", "_law_places_here", "_law_total", "_law_k", "_law_cost", "_law_whole"] ["_law_measure_here", "_law_ladder", "_law_shapes"] (defScope s_law_told_total) := ⟨rfl, rfl, rfl, by decide +kernel, rfl, by decide +kernel, by decide +kernel⟩
abbrev s_law_shut_out : Stmt := topS 41
theorem sc_law_shut_out : FnScope ["_law_claim", "_law_totals_here", "_law_total"] ["_law_claim", "_law_totals_here"] (defScope s_law_shut_out) := ⟨rfl, rfl, rfl, by decide +kernel, rfl, by decide +kernel, by decide +kernel⟩
abbrev s_law : Stmt := topS 42
theorem sc_law : FnScope ["_law_script", "_law_d", "_law_words", "_law_style", "_law_shapes", "_law_measure_here", "_law_rows", "_law_right", "_law_least", "_law_net", "_law_totals_here", "_law_k", "_law_paper", "_law_claim", "_law_told", "_law_word"] ["_law_script"] (defScope s_law) := ⟨rfl, rfl, rfl, by decide +kernel, rfl, by decide +kernel, by decide +kernel⟩
abbrev s_TooWide_init : Stmt := inClass (topS 9) 0
theorem sc_TooWide_init : FnScope ["self", "part"] ["self", "part"] (defScope s_TooWide_init) := ⟨rfl, rfl, rfl, by decide +kernel, rfl, by decide +kernel, by decide +kernel⟩
/-- a class of the text -/
structure ClsAt (K : PySem.W.Frag) (mg : Str → Option Value) (x : Str) (C : Addr) : Prop where
  G : mg x = some (.ref C)
  ic : PySem.W.isClsIn K C = true
  ty : PySem.W.typeIn K (.ref C) = some (.type "type")
/-- an own error's class with its __init__ -/
structure ErrAt (K : PySem.W.Frag) (mg : Str → Option Value) (x qi : Str) (C fI : Addr) (fd : FuncData) (st : Stmt) (ps fs : List Str) : Prop where
  G : mg x = some (.ref C)
  O : OexC K C
  EC : ExcC K C
  XC : XfC K C
  I : PySem.W.findIn K (.ref C) "__init__" = some (some (.ref fI))
  TI : PySem.W.typeIn K (.ref fI) = some (.type "function")
  F : Fun K "__init__" qi st fI fd
  B : Binds K fd ps []
  no : ∀ f ∈ fs, PySem.W.findIn K (.ref C) f = some none
section
variable {K : PySem.W.Frag} {D C : Addr} {b : Bool}
theorem kitCls_ref (ic : PySem.W.isClsIn K C = true) (ty : PySem.W.typeIn K (.ref C) = some (.type "type")) (sb : PySem.W.subIn K (.ref D) (.ref C) = some b) : PySem.W.kitCls K (.ref D) (.ref C) = some b := by
  have h : ((PySem.W.clsIn K C).isSome && PySem.W.typeIn K (.ref C) == some (.type "type")) = true := by
    have ic2 : (PySem.W.clsIn K C).isSome = true := ic
    rw [ic2, ty] <;> rfl
  show (if ((PySem.W.clsIn K C).isSome && PySem.W.typeIn K (.ref C) == some (.type "type")) = true then PySem.W.subIn K (.ref D) (.ref C) else none) = some b
  rw [if_pos h]; exact sb
theorem kit_ref (dd : PySem.W.subIn K (.ref D) (.ref D) = some true) (ic : PySem.W.isClsIn K C = true) (ty : PySem.W.typeIn K (.ref C) = some (.type "type")) (sb : PySem.W.subIn K (.ref D) (.ref C) = some b) : PySem.W.kitOne K (.ref D) (.ref C) = some b := by
  unfold PySem.W.kitOne
  by_cases h : (Value.ref D == Value.ref C) = true
  · rw [if_pos h]
    have e : Value.ref D = Value.ref C := beq_iff_eq.mp h
    rw [← e, dd] at sb
    exact sb
  · rw [if_neg h]; exact kitCls_ref ic ty sb
theorem kit_typ (sb : PySem.W.subIn K (.ref D) (.type "ValueError") = some true) : PySem.W.kitOne K (.ref D) (.type "ValueError") = some true := by
  have h : (Value.ref D == Value.type "ValueError") = false := beq_eq_false_iff_ne.mpr (fun e => by cases e)
  unfold PySem.W.kitOne
  rw [h, if_neg Bool.false_ne_true]
  show (if PySem.W.kitMeta "ValueError" = true then PySem.W.subIn K (.ref D) (.type "ValueError") else none) = some true
  rw [if_pos (by decide +kernel)]; exact sb
theorem exm_ref (bx : PySem.W.subIn K (.ref C) (.type "BaseException") = some true) (ic : PySem.W.isClsIn K C = true) (ty : PySem.W.typeIn K (.ref C) = some (.type "type")) (sb : PySem.W.subIn K (.ref D) (.ref C) = some b) : PySem.W.exmOne K (.ref D) (.ref C) = some b := by
  have h : (PySem.W.subIn K (.ref C) (.type "BaseException") == some true) = true := by rw [bx] <;> rfl
  show (if (PySem.W.subIn K (.ref C) (.type "BaseException") == some true) = true then PySem.W.kitCls K (.ref D) (.ref C) else none) = some b
  rw [if_pos h]; exact kitCls_ref ic ty sb
end
structure DefAt (K : PySem.W.Frag) (mg : Str → Option Value) (x : Str) (st : Stmt) (ps : List Str) (f : Addr) (fd : FuncData) : Prop where
  F : Fun K x x st f fd
  G : mg x = some (.ref f)
  B : Binds K fd ps []
  E : ∃ kV doc pm an cdv ct, fd = PySem.W.fnOf x x (defArgs st) (defBody st) (defScope st) .none kV doc pm an cdv ct
structure Txt (K : PySem.W.Frag) (mg : Str → Option Value) where
  a_bounds_of : Addr
  d_bounds_of : FuncData
  D_bounds_of : DefAt K mg "bounds_of" s_bounds_of ["net"] a_bounds_of d_bounds_of
  a_judge_bounds : Addr
  d_judge_bounds : FuncData
  D_judge_bounds : DefAt K mg "judge_bounds" s_judge_bounds ["net", "total", "bounds"] a_judge_bounds d_judge_bounds
  a_least_way_along : Addr
  d_least_way_along : FuncData
  D_least_way_along : DefAt K mg "least_way_along" s_least_way_along ["places", "leads"] a_least_way_along d_least_way_along
  a_leading : Addr
  d_leading : FuncData
  D_leading : DefAt K mg "_leading" s_leading ["net"] a_leading d_leading
  a_bounds_and_tails : Addr
  d_bounds_and_tails : FuncData
  D_bounds_and_tails : DefAt K mg "_bounds_and_tails" s_bounds_and_tails ["places", "leads"] a_bounds_and_tails d_bounds_and_tails
  a_piece_width : Addr
  d_piece_width : FuncData
  D_piece_width : DefAt K mg "piece_width" s_piece_width ["shape", "first", "last"] a_piece_width d_piece_width
  a_positions : Addr
  d_positions : FuncData
  D_positions : DefAt K mg "positions" s_positions ["shapes"] a_positions d_positions
  a_line_net : Addr
  d_line_net : FuncData
  D_line_net : DefAt K mg "line_net" s_line_net ["measure", "ladder", "shapes"] a_line_net d_line_net
  a_least_lines : Addr
  d_least_lines : FuncData
  D_least_lines : DefAt K mg "least_lines" s_least_lines ["measure", "ladder", "shapes"] a_least_lines d_least_lines
  a_lines_from : Addr
  d_lines_from : FuncData
  D_lines_from : DefAt K mg "_lines_from" s_lines_from ["measure", "ladder", "shapes", "begin"] a_lines_from d_lines_from
  a_ends_from : Addr
  d_ends_from : FuncData
  D_ends_from : DefAt K mg "_ends_from" s_ends_from ["measure", "shapes", "begin"] a_ends_from d_ends_from
  a_cost : Addr
  d_cost : FuncData
  D_cost : DefAt K mg "_cost" s_cost ["measure", "ladder", "shapes", "begin", "end", "width"] a_cost d_cost
  a_law_begin : Addr
  d_law_begin : FuncData
  D_law_begin : DefAt K mg "_law_begin" s_law_begin ["_law_script"] a_law_begin d_law_begin
  a_law_draw : Addr
  d_law_draw : FuncData
  D_law_draw : DefAt K mg "_law_draw" s_law_draw ["_law_d", "_law_many"] a_law_draw d_law_draw
  a_law_pick : Addr
  d_law_pick : FuncData
  D_law_pick : DefAt K mg "_law_pick" s_law_pick ["_law_d", "_law_row"] a_law_pick d_law_pick
  a_law_rare : Addr
  d_law_rare : FuncData
  D_law_rare : DefAt K mg "_law_rare" s_law_rare ["_law_d", "_law_many"] a_law_rare d_law_rare
  a_law_piece : Addr
  d_law_piece : FuncData
  D_law_piece : DefAt K mg "_law_piece" s_law_piece ["_law_style", "_law_word", "_law_first", "_law_behind"] a_law_piece d_law_piece
  a_law_places : Addr
  d_law_places : FuncData
  D_law_places : DefAt K mg "_law_places" s_law_places ["_law_style", "_law_word"] a_law_places d_law_places
  a_law_shape : Addr
  d_law_shape : FuncData
  D_law_shape : DefAt K mg "_law_shape" s_law_shape ["_law_style", "_law_word"] a_law_shape d_law_shape
  a_law_piece_width : Addr
  d_law_piece_width : FuncData
  D_law_piece_width : DefAt K mg "_law_piece_width" s_law_piece_width ["_law_shape_here", "_law_first", "_law_last"] a_law_piece_width d_law_piece_width
  a_law_natural : Addr
  d_law_natural : FuncData
  D_law_natural : DefAt K mg "_law_natural" s_law_natural ["_law_shapes", "_law_start", "_law_end"] a_law_natural d_law_natural
  a_law_positions : Addr
  d_law_positions : FuncData
  D_law_positions : DefAt K mg "_law_positions" s_law_positions ["_law_shapes"] a_law_positions d_law_positions
  a_law_line_cost : Addr
  d_law_line_cost : FuncData
  D_law_line_cost : DefAt K mg "_law_line_cost" s_law_line_cost ["_law_measure_here", "_law_ladder", "_law_shapes", "_law_start", "_law_end"] a_law_line_cost d_law_line_cost
  a_law_exact : Addr
  d_law_exact : FuncData
  D_law_exact : DefAt K mg "_law_exact" s_law_exact ["_law_told", "_law_due"] a_law_exact d_law_exact
  a_law_drawn_words : Addr
  d_law_drawn_words : FuncData
  D_law_drawn_words : DefAt K mg "_law_drawn_words" s_law_drawn_words ["_law_d"] a_law_drawn_words d_law_drawn_words
  a_law_style_for : Addr
  d_law_style_for : FuncData
  D_law_style_for : DefAt K mg "_law_style_for" s_law_style_for ["_law_d", "_law_words"] a_law_style_for d_law_style_for
  a_law_measure : Addr
  d_law_measure : FuncData
  D_law_measure : DefAt K mg "_law_measure" s_law_measure ["_law_d", "_law_shapes"] a_law_measure d_law_measure
  a_law_arcs : Addr
  d_law_arcs : FuncData
  D_law_arcs : DefAt K mg "_law_arcs" s_law_arcs ["_law_measure_here", "_law_ladder", "_law_shapes"] a_law_arcs d_law_arcs
  a_law_least_prices : Addr
  d_law_least_prices : FuncData
  D_law_least_prices : DefAt K mg "_law_least_prices" s_law_least_prices ["_law_rows"] a_law_least_prices d_law_least_prices
  a_law_totals : Addr
  d_law_totals : FuncData
  D_law_totals : DefAt K mg "_law_totals" s_law_totals ["_law_rows", "_law_least"] a_law_totals d_law_totals
  a_law_is_paper : Addr
  d_law_is_paper : FuncData
  D_law_is_paper : DefAt K mg "_law_is_paper" s_law_is_paper ["_law_rows", "_law_total", "_law_paper"] a_law_is_paper d_law_is_paper
  a_law_bent_paper : Addr
  d_law_bent_paper : FuncData
  D_law_bent_paper : DefAt K mg "_law_bent_paper" s_law_bent_paper ["_law_d", "_law_right"] a_law_bent_paper d_law_bent_paper
  a_law_told_total : Addr
  d_law_told_total : FuncData
  D_law_told_total : DefAt K mg "_law_told_total" s_law_told_total ["_law_measure_here", "_law_ladder", "_law_shapes"] a_law_told_total d_law_told_total
  a_law_shut_out : Addr
  d_law_shut_out : FuncData
  D_law_shut_out : DefAt K mg "_law_shut_out" s_law_shut_out ["_law_claim", "_law_totals_here"] a_law_shut_out d_law_shut_out
  a_law : Addr
  d_law : FuncData
  D_law : DefAt K mg "law" s_law ["_law_script"] a_law d_law
  n_all : mg "all" = none
  n_bool : mg "bool" = none
  n_enumerate : mg "enumerate" = none
  n_int : mg "int" = none
  n_isinstance : mg "isinstance" = none
  n_len : mg "len" = none
  n_list : mg "list" = none
  n_max : mg "max" = none
  n_min : mg "min" = none
  n_range : mg "range" = none
  n_sorted : mg "sorted" = none
  n_str : mg "str" = none
  n_sum : mg "sum" = none
  n_tuple : mg "tuple" = none
  c_PagesError : Addr
  C_PagesError : ClsAt K mg "PagesError" c_PagesError
  c_LimitError : Addr
  C_LimitError : ClsAt K mg "LimitError" c_LimitError
  c_TooWide : Addr
  C_TooWide : ClsAt K mg "TooWide" c_TooWide
  i_TooWide : Addr
  d_TooWide : FuncData
  E_TooWide : ErrAt K mg "TooWide" "TooWide.__init__" c_TooWide i_TooWide d_TooWide s_TooWide_init ["self", "part"] ["part"]
  k_TooWide_PagesError : PySem.W.kitOne K (.ref c_TooWide) (.ref c_PagesError) = some true
  k_TooWide_LimitError : PySem.W.kitOne K (.ref c_TooWide) (.ref c_LimitError) = some true
  k_TooWide_TooWide : PySem.W.kitOne K (.ref c_TooWide) (.ref c_TooWide) = some true
  v_TooWide : PySem.W.kitOne K (.ref c_TooWide) (.type "ValueError") = some true
  x_TooWide : PySem.W.exmOne K (.ref c_TooWide) (.ref c_PagesError) = some true
  y_TooWide : PySem.W.exmOne K (.ref c_TooWide) (.ref c_TooWide) = some true
/-! ### the dice -/
/-- at d the dice, at l the script's copy -/
structure DI (d l : Addr) (H : Hp) : Prop where
  ne : l ≠ d
  sc : ∃ ns : List Int, H l = some (.lst (ns.map V.int))
  st : ∃ i b s c : Int, 0 ≤ i ∧ H d = some (.lst [.ref l, .int i, .int b, .int s, .int c])
/-- all but the dice stands -/
def Kp (d : Addr) (H H' : Hp) : Prop := ∀ b o, b ≠ d → H b = some o → H' b = some o
theorem Kp.refl (d : Addr) (H : Hp) : Kp d H H := fun _ _ _ h => h
theorem Kp.trans {d : Addr} {H H1 H2 : Hp} (a : Kp d H H1) (b : Kp d H1 H2) : Kp d H H2 := fun x o n h => b x o n (a x o n h)
theorem Kp.upd {d : Addr} {H H' : Hp} {o : HO} (a : Kp d H H') : Kp d H (upd H' d o) := fun x u n h => by
  rw [upd_ne n]; exact a x u n h
theorem Kp.new {d p : Addr} {H H' : Hp} {o : HO} (a : Kp d H H') (hp : H' p = none) : Kp d H (L2.upd H' p o) := fun x u n h => by
  have h2 := a x u n h
  rw [upd_ne (ne_of_none h2 hp)]; exact h2
theorem Kp.mut {d p : Addr} {H H' : Hp} {o : HO} (a : Kp d H H') (hp : H p = none) : Kp d H (L2.upd H' p o) := fun x u n h => by
  rw [upd_ne (ne_of_none h hp)]; exact a x u n h
theorem Kp.sq {K : PySem.W.Frag} {d a : Addr} {H H' : Hp} {xs : List V} (k : Kp d H H') (n : a ≠ d) (h : SqL K H a xs) : SqL K H' a xs := by
  rcases h with (h | ⟨o, h⟩) | h
  · exact .inl (.inl (k _ _ n h))
  · exact .inl (.inr ⟨o, k _ _ n h⟩)
  · exact .inr h
theorem DI.keep {d l : Addr} {H H' : Hp} (h : DI d l H) (e : ∀ b o, H b = some o → H' b = some o) : DI d l H' := by
  obtain ⟨n, ⟨ns, h1⟩, i, b, s, c, h0, h2⟩ := h
  exact ⟨n, ⟨ns, e _ _ h1⟩, i, b, s, c, h0, e _ _ h2⟩
theorem DI.at {d l p : Addr} {H : Hp} {o : HO} (h : DI d l H) (n1 : p ≠ d) (n2 : p ≠ l) : DI d l (upd H p o) := by
  obtain ⟨n, ⟨ns, h1⟩, i, b, s, c, h0, h2⟩ := h
  exact ⟨n, ⟨ns, by rw [upd_ne n2.symm]; exact h1⟩, i, b, s, c, h0, by rw [upd_ne n1.symm]; exact h2⟩
theorem DI.new {d l p : Addr} {H : Hp} {o : HO} (h : DI d l H) (hp : H p = none) : DI d l (upd H p o) :=
  h.keep fun b u e => by rw [upd_ne (ne_of_none e hp)]; exact e
theorem DI.nd {d l p : Addr} {H : Hp} (h : DI d l H) (hp : H p = none) : p ≠ d ∧ p ≠ l := by
  obtain ⟨n, ⟨ns, h1⟩, i, b, s, c, h0, h2⟩ := h
  exact ⟨fun e => (by rw [e, h2] at hp; cases hp), fun e => (by rw [e, h1] at hp; cases hp)⟩
theorem DI.set {d l : Addr} {H : Hp} {i b s c : Int} (h : DI d l H) (h0 : 0 ≤ i) : DI d l (upd H d (.lst [.ref l, .int i, .int b, .int s, .int c])) := by
  obtain ⟨n, ⟨ns, h1⟩, _⟩ := h
  exact ⟨n, ⟨ns, by rw [upd_ne n]; exact h1⟩, i, b, s, c, h0, upd_same⟩
section
variable {P : Program} {w : World} {K : PySem.W.Frag} {mg : Str → Option Value} {base : Heap}
/-! ### begin -/
def spBegin (K : PySem.W.Frag) : Sp := fun vs H Q _ => ∃ (a : Addr) (ns : List Int), vs = [.ref a] ∧ SqL K H a (ns.map V.int) ∧ ns.length ≤ 63 ∧
  ∀ H' d l, Same H H' → DI d l H' → Q (.ref d) H'
theorem ok_begin (T : Txt K mg) : FnOk P w K mg base CX0 1 T.a_law_begin T.d_law_begin ["_law_script"] (spBegin K) := by
  refine T.D_law_begin.F.ok sc_law_begin (fun vs H Q E h => ?_) (fun cdv A outer s H vs Q E hr h => ?_)
  · obtain ⟨a, ns, rfl, _⟩ := h
    rfl
  · obtain ⟨a, ns, rfl, hS, hl, q⟩ := h
    refine ⟨_, (pss_one (ps_ret (pe_lst (pa_cons (pe_callTy call_list_of (by rfl) T.n_list (by decide +kernel) (pa_cons (pv 0) pa_nil)) (pa_cons pe_int (pa_cons pe_int (pa_cons pe_int (pa_cons pe_int pa_nil)))))))), ?_⟩
    refine ⟨_, rfl, a, _, rfl, .inl hS, fun l nl => ?_⟩
    refine ⟨by show 5 ≤ sizeLine; decide, fun d nd => ?_⟩
    refine q _ d l (fun b o e => ?_) ?_
    · have n1 : b ≠ l := ne_of_none e nl
      have e1 : upd H l (.lst (ns.map V.int)) b = some o := by rw [upd_ne n1]; exact e
      rw [upd_ne (ne_of_none e1 nd)]
      exact e1
    · have e1 : upd H l (.lst (ns.map V.int)) l = some (.lst (ns.map V.int)) := upd_same
      have n1 : l ≠ d := ne_of_none e1 nd
      exact ⟨n1, ⟨ns, by rw [upd_ne n1]; exact e1⟩, 0, 0, 7, 0, by decide, upd_same⟩
/-! ### draw -/
def spDraw : Sp := fun vs H Q _ => ∃ (d l : Addr) (m : Int), vs = [.ref d, .int m] ∧ DI d l H ∧ m ≤ 1000000 ∧
  ∀ H' r, Kp d H H' → DI d l H' → (m < 2 → r = 0) → (2 ≤ m → 0 ≤ r ∧ r < m) → Q (.int r) H'
theorem ok_draw (T : Txt K mg) : FnOk P w K mg base CX0 1 T.a_law_draw T.d_law_draw ["_law_d", "_law_many"] spDraw := by
  refine T.D_law_draw.F.ok sc_law_draw (fun vs H Q E h => ?_) (fun cdv A outer s H vs Q E hr h => ?_)
  · obtain ⟨d, l, m, rfl, _⟩ := h
    rfl
  · obtain ⟨d, l, m, rfl, hD, hm, q⟩ := h
    refine ⟨_, (pss_cons (ps_if (pt_cmpR op_lt (pv 1) pe_int (nomark _)) (pss_one (ps_ret pe_int)) pss_nil)
      (pss_cons (ps_set (i := 2) sc_law_draw.nd rfl (.inl rfl) (pe_op op_add (pe_op op_mul (pe_ix ix_list (pv 0) pe_int (fun _ _ => rfl)) pe_int) pe_int))
      (Evl.pss_cut (ps_if (PW.pt (pw_and (pt_cmpR op_eq (pe_ix ix_list (pv 0) pe_int (fun _ _ => rfl)) pe_int (nomark _)) (pw_and1 (pt_cmpR op_lt (pe_ix ix_list (pv 0) pe_int (fun _ _ => rfl)) (pe_callB call_len_seq (by rfl) T.n_len PySem.boot_len (pa_cons (pe_ix ix_list (pv 0) pe_int (fun _ _ => rfl)) pa_nil)) (nomark _))))) (pss_cons (ps_set (i := 2) sc_law_draw.nd rfl (.inl rfl) (pe_ix ix_list (pe_ix ix_list (pv 0) pe_int (fun _ _ => rfl)) (pe_ix ix_list (pv 0) pe_int (fun _ _ => rfl)) (fun _ _ => rfl)))
      (pss_cons (ps_asg (pe_op op_add (pe_ix ix_list (pv 0) pe_int (fun _ _ => rfl)) pe_int) (pg_sub (pv 0) pe_int set_list))
      (Evl.pss_cut (ps_if (pt_cmpR op_lt (pv 2) pe_int (nomark _)) (pss_one (ps_set (i := 2) sc_law_draw.nd rfl (.inl rfl) (pe_op op_sub pe_int (pe_op op_mul pe_int (pv 2))))) pss_nil)
      (pss_one (ps_if (pt_cmpR op_ge (pv 2) pe_int (nomark _)) (pss_cons (ps_set (i := 2) sc_law_draw.nd rfl (.inl rfl) (pe_op op_and (pv 2) (pe_op op_sub (pe_op op_shl pe_int pe_int) pe_int)))
      (pss_one (ps_asg (pv 2) (pg_sub (pv 0) pe_int set_list)))) pss_nil))))) pss_nil)
      (pss_cons (ps_if (pt_cmpR op_gt (pe_ix ix_list (pv 0) pe_int (fun _ _ => rfl)) pe_int (nomark _)) (pss_cons (ps_set (i := 3) sc_law_draw.nd rfl (.inl rfl) (pe_op op_modN (pe_callTy call_int1 (by rfl) T.n_int (by decide +kernel) (pa_cons (pe_ix ix_list (pv 0) pe_int (fun _ _ => rfl)) pa_nil)) (pv 1)))
      (pss_cons (ps_asg (pe_op op_fdivN (pe_ix ix_list (pv 0) pe_int (fun _ _ => rfl)) (pv 1)) (pg_sub (pv 0) pe_int set_list))
      (pss_one (ps_ret (pv 3))))) pss_nil)
      (pss_cons (ps_asg (pe_op op_add (pe_ix ix_list (pv 0) pe_int (fun _ _ => rfl)) pe_int) (pg_sub (pv 0) pe_int set_list))
      (pss_cons (ps_asg (pe_op op_modN (pe_callTy call_int1 (by rfl) T.n_int (by decide +kernel) (pa_cons (pe_op op_add (pe_op op_add (pe_op op_mul (pe_ix ix_list (pv 0) pe_int (fun _ _ => rfl)) pe_int) (pe_op op_mul (pv 2) pe_int)) (pe_op op_mul (pe_ix ix_list (pv 0) pe_int (fun _ _ => rfl)) pe_int)) pa_nil)) pe_int) (pg_sub (pv 0) pe_int set_list))
      (pss_one (ps_ret (pe_op op_modN (pe_callTy call_int1 (by rfl) T.n_int (by decide +kernel) (pa_cons (pe_op op_modN (pe_callTy call_int1 (by rfl) T.n_int (by decide +kernel) (pa_cons (pe_op op_add (pe_op op_add (pe_op op_mul (pe_ix ix_list (pv 0) pe_int (fun _ _ => rfl)) pe_int) (pe_op op_mul (pe_ix ix_list (pv 0) pe_int (fun _ _ => rfl)) pe_int)) pe_int) pa_nil)) pe_int) pa_nil)) (pv 1)))))))))), ?_⟩
    refine ⟨_, rfl, _, _, rfl, rfl, _, rfl, ite2 (fun e => ?_) (fun e => ?_)⟩
    · have e := of_decide_eq_true e
      exact q H 0 (Kp.refl d H) hD (fun _ => rfl) (fun z => by omega)
    have hm2 : 2 ≤ m := by
      have e2 : ¬ m < 2 := fun z => e (decide_eq_true z)
      omega
    have hmN : m ≠ 0 := by omega
    have hmA : m.natAbs < 1073741824 := by omega
    have fm : ∀ z : Int, 0 ≤ z.fmod m ∧ z.fmod m < m := fun z => ⟨Int.fmod_nonneg_of_pos z (by omega), Int.fmod_lt_of_pos z (by omega)⟩
    obtain ⟨n, ⟨ns, h1⟩, i, b, s5, c, h0, h2⟩ := id hD
    -- cell = d[4] * 977 + 3
    refine ⟨_, rfl, _, _, _, _, rfl, rfl, SqL.of h2, rfl, _, _, rfl, rfl, .inr ⟨by decide, by decide⟩, _, _, rfl, rfl, ?_⟩
    refine ⟨fun σ' H' => ∃ (cell : Int) (x3 : Option V), σ' = [some (.ref d), some (.int m), some (.int cell), x3] ∧ Kp d H H' ∧ DI d l H', ?_, ?_⟩
    · -- the cell
      refine ⟨_, rfl, _, _, _, _, rfl, rfl, SqL.of h2, rfl, rfl, _, rfl, ite2 (fun e1 => ?_) (fun e1 => ?_)⟩
      · refine ⟨_, rfl, _, _, _, _, rfl, rfl, SqL.of h2, rfl, _, rfl, _, _, _, _, rfl, rfl, SqL.of h2, rfl, _, _, rfl, .inl (SqL.of h1), _, _, rfl, rfl, _, rfl, ite2 (fun e2 => ?_) (fun e2 => ?_)⟩
        · have e2 := of_decide_eq_true e2
          rw [List.length_map] at e2
          obtain ⟨j, rfl⟩ : ∃ j : Nat, i = (j : Int) := ⟨i.toNat, by omega⟩
          have hj : j < ns.length := by omega
          have gj : (ns.map V.int)[j]? = some (.int ns[j]) := by
            rw [List.getElem?_map, List.getElem?_eq_getElem hj]; rfl
          refine ⟨_, rfl, _, _, _, _, rfl, rfl, SqL.of h2, rfl, _, rfl, _, _, _, _, rfl, rfl, SqL.of h2, rfl, _, _, _, _, rfl, rfl, SqL.of h1, atI_nat gj, ?_⟩
          -- d[1] = d[1] + 1
          refine ⟨_, rfl, _, _, _, _, rfl, rfl, SqL.of h2, rfl, _, _, rfl, rfl, _, rfl, _, _, _, _, rfl, rfl, h2, rfl, ?_⟩
          have D1 := hD.set (i := (j : Int) + 1) (b := b) (s := s5) (c := c) (by omega)
          have K1 : Kp d H (upd H d (.lst [.ref l, .int ((j : Int) + 1), .int b, .int s5, .int c])) := (Kp.refl d H).upd
          refine ⟨fun σ' H' => ∃ (cell : Int) (x3 : Option V), σ' = [some (.ref d), some (.int m), some (.int cell), x3] ∧ H' = upd H d (.lst [.ref l, .int ((j : Int) + 1), .int b, .int s5, .int c]), ?_, ?_⟩
          · refine ⟨_, rfl, _, _, rfl, rfl, _, rfl, ite2 (fun _ => ?_) (fun _ => ?_)⟩
            · exact ⟨_, rfl, _, _, rfl, rfl, .inl ⟨by decide, by decide⟩, _, _, rfl, rfl, _, _, rfl, rfl⟩
            · exact ⟨_, _, rfl, rfl⟩
          · rintro σ' H' ⟨cell, x3, rfl, rfl⟩
            refine ⟨_, rfl, _, _, rfl, rfl, _, rfl, ite2 (fun _ => ?_) (fun _ => ?_)⟩
            · refine ⟨_, rfl, _, _, rfl, rfl, ⟨by decide, by decide, by decide⟩, _, _, rfl, rfl, _, _, rfl, rfl, ?_⟩
              refine ⟨_, rfl, _, rfl, _, _, _, _, rfl, rfl, upd_same, rfl, ?_⟩
              exact ⟨_, _, rfl, K1.upd, D1.set (by omega)⟩
            · exact ⟨_, _, rfl, K1, D1⟩
        · exact ⟨_, _, rfl, Kp.refl d H, hD⟩
      · exact ⟨_, _, rfl, Kp.refl d H, hD⟩
    · rintro σ' H1 ⟨cell, x3, rfl, K1, D1⟩
      obtain ⟨n, ⟨ns, h1⟩, i, b, s5, c, h0, h2⟩ := id D1
      refine ⟨_, rfl, _, _, _, _, rfl, rfl, SqL.of h2, rfl, _, _, rfl, rfl, _, rfl, ite2 (fun e1 => ?_) (fun e1 => ?_)⟩
      · refine ⟨_, rfl, _, _, _, _, rfl, rfl, SqL.of h2, rfl, .inl ⟨_, rfl, _, rfl, _, _, rfl, rfl, hmN, ?_⟩⟩
        refine ⟨_, rfl, _, _, _, _, rfl, rfl, SqL.of h2, rfl, _, rfl, _, _, rfl, rfl, ⟨hmN, hmA⟩, _, rfl, _, _, _, _, rfl, rfl, h2, rfl, ?_⟩
        exact ⟨_, rfl, q _ _ K1.upd (D1.set h0) (fun z => by omega) (fun _ => fm _)⟩
      · refine ⟨_, rfl, _, _, _, _, rfl, rfl, SqL.of h2, rfl, _, _, rfl, rfl, _, rfl, _, _, _, _, rfl, rfl, h2, rfl, ?_⟩
        refine ⟨_, rfl, _, _, _, _, rfl, rfl, SqL.of upd_same, rfl, _, _, rfl, rfl, .inr ⟨by decide, by decide⟩, _, rfl, _, _, rfl, rfl, .inr ⟨by decide, by decide⟩, _, _, rfl, rfl, _, rfl, _, _, _, _, rfl, rfl, SqL.of upd_same, rfl, _, _, rfl, rfl, .inr ⟨by decide, by decide⟩, _, _, rfl, rfl, .inl ⟨_, rfl, _, _, rfl, rfl, (by show (2147483647 : Int) ≠ 0; decide), _, rfl, _, _, _, _, rfl, rfl, upd_same, rfl, ?_⟩⟩
        refine ⟨_, rfl, _, _, _, _, rfl, rfl, SqL.of upd_same, rfl, _, _, rfl, rfl, .inr ⟨by decide, by decide⟩, _, rfl, _, _, _, _, rfl, rfl, SqL.of upd_same, rfl, _, _, rfl, rfl, .inr ⟨by decide, by decide⟩, _, _, rfl, rfl, _, _, rfl, rfl, .inl ⟨_, rfl, _, _, rfl, rfl, (by show (2147483399 : Int) ≠ 0; decide), .inl ⟨_, rfl, _, rfl, _, _, rfl, rfl, hmN, ?_⟩⟩⟩
        exact q _ _ K1.upd.upd ((D1.set h0).set h0) (fun z => by omega) (fun _ => fm _)
end
end Vf

set_option Elab.async false
set_option linter.all false
set_option maxRecDepth 100000
set_option maxHeartbeats 4000000
namespace Vf
open PySem PySem.Spec PyProof.Rows L2 TL
/-! ### the mathematics of tokens -/
def sW : Str := "abcdefghijklmnopqrstuvwxyz0123456789.,:;!?'()+=<>*/"
def sL : Str := "abcdefghijklmnopqrstuvwxyz"
def sB : Str := " \n"
def sOdd : Str := "\"#$&-ABCDEFGHIJKLMNOPQRSTUVWXYZ[\\]^_`|~"
def cW (c : Nat) : Bool := decide (c ∈ sW.cps.toList)
def cL (c : Nat) : Bool := decide (c ∈ sL.cps.toList)
def cB (c : Nat) : Bool := decide (c ∈ sB.cps.toList)
/-- the text of these signs -/
def mkS (zs : List Nat) : Str := ⟨zs.toArray⟩
def sV (zs : List Nat) : V := .str (mkS zs)
theorem mkS_cps (zs : List Nat) : (mkS zs).cps.toList = zs := rfl
theorem mkS_of (z : Str) : mkS z.cps.toList = z := rfl
theorem mkS_len (zs : List Nat) : (mkS zs).length = zs.length := by simp [mkS, Str.length]
theorem len_cps (z : Str) : z.length = z.cps.toList.length := by simp [Str.length]
theorem mkS_app (a b : List Nat) : mkS a ++ mkS b = mkS (a ++ b) := by
  have h : (mkS a ++ mkS b).cps.toList = a ++ b := by rw [Str.cps_append, Array.toList_append]; rfl
  rw [← h]
  rfl
theorem mkS_inj {a b : List Nat} (h : mkS a = mkS b) : a = b := by
  have h2 := congrArg (fun z : Str => z.cps.toList) h
  exact h2
theorem sW_list : sW.cps.toList = [97,98,99,100,101,102,103,104,105,106,107,108,109,110,111,112,113,114,115,116,117,118,119,120,121,122,48,49,50,51,52,53,54,55,56,57,46,44,58,59,33,63,39,40,41,43,61,60,62,42,47] := by decide +kernel
theorem sL_list : sL.cps.toList = [97,98,99,100,101,102,103,104,105,106,107,108,109,110,111,112,113,114,115,116,117,118,119,120,121,122] := by decide +kernel
theorem sB_list : sB.cps.toList = [32, 10] := by decide +kernel
theorem cL_W {c : Nat} (h : cL c = true) : cW c = true := by
  have h1 := of_decide_eq_true h
  refine decide_eq_true ?_
  rw [sL_list] at h1
  rw [sW_list]
  rw [show ([97,98,99,100,101,102,103,104,105,106,107,108,109,110,111,112,113,114,115,116,117,118,119,120,121,122,48,49,50,51,52,53,54,55,56,57,46,44,58,59,33,63,39,40,41,43,61,60,62,42,47] : List Nat) = [97,98,99,100,101,102,103,104,105,106,107,108,109,110,111,112,113,114,115,116,117,118,119,120,121,122] ++ [48,49,50,51,52,53,54,55,56,57,46,44,58,59,33,63,39,40,41,43,61,60,62,42,47] from rfl]
  exact List.mem_append_left _ h1
theorem cW_B {c : Nat} (h : cW c = true) : cB c = false := by
  refine decide_eq_false fun h2 => ?_
  rw [sB_list] at h2
  have h1 := of_decide_eq_true h
  rw [sW_list] at h1
  simp only [List.mem_cons, List.not_mem_nil, or_false] at h2
  rcases h2 with rfl | rfl
  · exact absurd h1 (by decide)
  · exact absurd h1 (by decide)
theorem cW_at : cW 64 = false := by
  unfold cW
  rw [sW_list]
  decide
theorem cB_at : cB 64 = false := by
  unfold cB
  rw [sB_list]
  decide
theorem cW_ne {c : Nat} (h : cW c = true) : c ≠ 64 := fun e => by
  rw [e, cW_at] at h
  cases h
theorem drop_le {α : Type} (p : α → Bool) : ∀ l : List α, (l.dropWhile p).length ≤ l.length
  | [] => Nat.le_refl _
  | c :: r => by
    rw [List.dropWhile_cons]
    split
    · exact Nat.le_trans (drop_le p r) (Nat.le_succ _)
    · exact Nat.le_refl _
/-- the tokens of a text -/
def tokF : Nat → List Nat → List (List Nat)
  | 0, _ => []
  | _ + 1, [] => []
  | n + 1, c :: r =>
    if cB c then tokF n r else if c = 64 then (c :: r.takeWhile cL) :: tokF n (r.dropWhile cL)
    else if cW c then (c :: r.takeWhile cW) :: tokF n (r.dropWhile cW) else [c] :: tokF n r
theorem tokF_more : ∀ (n m : Nat) (zs : List Nat), zs.length ≤ n → zs.length ≤ m → tokF n zs = tokF m zs
  | 0, 0, _, _, _ => rfl
  | 0, m + 1, zs, h, _ => by
    have e : zs = [] := List.length_eq_zero_iff.mp (Nat.le_zero.mp h)
    subst e
    rfl
  | n + 1, 0, zs, _, h => by
    have e : zs = [] := List.length_eq_zero_iff.mp (Nat.le_zero.mp h)
    subst e
    rfl
  | n + 1, m + 1, [], _, _ => rfl
  | n + 1, m + 1, c :: r, h1, h2 => by
    have a1 : r.length ≤ n := Nat.le_of_succ_le_succ h1
    have a2 : r.length ≤ m := Nat.le_of_succ_le_succ h2
    have d1 := drop_le cL r
    have d2 := drop_le cW r
    show (if cB c then tokF n r else if c = 64 then (c :: r.takeWhile cL) :: tokF n (r.dropWhile cL) else if cW c then (c :: r.takeWhile cW) :: tokF n (r.dropWhile cW) else [c] :: tokF n r) =
      (if cB c then tokF m r else if c = 64 then (c :: r.takeWhile cL) :: tokF m (r.dropWhile cL) else if cW c then (c :: r.takeWhile cW) :: tokF m (r.dropWhile cW) else [c] :: tokF m r)
    rw [tokF_more n m r a1 a2, tokF_more n m _ (Nat.le_trans d1 a1) (Nat.le_trans d1 a2), tokF_more n m _ (Nat.le_trans d2 a1) (Nat.le_trans d2 a2)]
def tok (zs : List Nat) : List (List Nat) := tokF zs.length zs
theorem tok_nil : tok [] = [] := rfl
theorem tok_cons (c : Nat) (r : List Nat) : tok (c :: r) = if cB c then tok r else if c = 64 then (c :: r.takeWhile cL) :: tok (r.dropWhile cL)
    else if cW c then (c :: r.takeWhile cW) :: tok (r.dropWhile cW) else [c] :: tok r := by
  show (if cB c then tokF r.length r else if c = 64 then (c :: r.takeWhile cL) :: tokF r.length (r.dropWhile cL) else if cW c then (c :: r.takeWhile cW) :: tokF r.length (r.dropWhile cW) else [c] :: tokF r.length r) = _
  rw [tokF_more r.length (r.dropWhile cL).length (r.dropWhile cL) (drop_le _ _) (Nat.le_refl _), tokF_more r.length (r.dropWhile cW).length (r.dropWhile cW) (drop_le _ _) (Nat.le_refl _)]
  rfl
/-! #### what the law's own walk has found, and how it goes on -/
def cont : Nat → List (List Nat) → List Nat → List (List Nat)
  | 1, f, r => f.dropLast ++ ((f.getLast?.getD []) ++ r.takeWhile cW) :: tok (r.dropWhile cW)
  | 2, f, r => f.dropLast ++ ((f.getLast?.getD []) ++ r.takeWhile cL) :: tok (r.dropWhile cL)
  | _, f, r => f ++ tok r
theorem cont0 (f : List (List Nat)) (r : List Nat) : cont 0 f r = f ++ tok r := rfl
theorem cont1 (g : List (List Nat)) (t r : List Nat) : cont 1 (g ++ [t]) r = g ++ (t ++ r.takeWhile cW) :: tok (r.dropWhile cW) := by
  show (g ++ [t]).dropLast ++ (((g ++ [t]).getLast?.getD []) ++ r.takeWhile cW) :: tok (r.dropWhile cW) = _
  rw [List.dropLast_concat, List.getLast?_concat]; rfl
theorem cont2 (g : List (List Nat)) (t r : List Nat) : cont 2 (g ++ [t]) r = g ++ (t ++ r.takeWhile cL) :: tok (r.dropWhile cL) := by
  show (g ++ [t]).dropLast ++ (((g ++ [t]).getLast?.getD []) ++ r.takeWhile cL) :: tok (r.dropWhile cL) = _
  rw [List.dropLast_concat, List.getLast?_concat]; rfl
/-- a sign that goes on -/
theorem cont1_on {c : Nat} (h : cW c = true) (g : List (List Nat)) (t r : List Nat) : cont 1 (g ++ [t]) (c :: r) = cont 1 (g ++ [t ++ [c]]) r := by
  rw [cont1, cont1, List.takeWhile_cons_of_pos h, List.dropWhile_cons_of_pos h, List.append_assoc]; rfl
theorem cont2_on {c : Nat} (h : cL c = true) (g : List (List Nat)) (t r : List Nat) : cont 2 (g ++ [t]) (c :: r) = cont 2 (g ++ [t ++ [c]]) r := by
  rw [cont2, cont2, List.takeWhile_cons_of_pos h, List.dropWhile_cons_of_pos h, List.append_assoc]; rfl
/-- a sign that doesn't -/
theorem cont1_off {c : Nat} (h : cW c = false) (g : List (List Nat)) (t r : List Nat) : cont 1 (g ++ [t]) (c :: r) = cont 0 (g ++ [t]) (c :: r) := by
  rw [cont1, cont0, List.takeWhile_cons_of_neg (by rw [h]; decide), List.dropWhile_cons_of_neg (by rw [h]; decide), List.append_nil, List.append_assoc]; rfl
theorem cont2_off {c : Nat} (h : cL c = false) (g : List (List Nat)) (t r : List Nat) : cont 2 (g ++ [t]) (c :: r) = cont 0 (g ++ [t]) (c :: r) := by
  rw [cont2, cont0, List.takeWhile_cons_of_neg (by rw [h]; decide), List.dropWhile_cons_of_neg (by rw [h]; decide), List.append_nil, List.append_assoc]; rfl
theorem cont_blank {c : Nat} (h : cB c = true) (f : List (List Nat)) (r : List Nat) : cont 0 f (c :: r) = cont 0 f r := by
  rw [cont0, cont0, tok_cons, if_pos h]
theorem cont_at (f : List (List Nat)) (r : List Nat) : cont 0 f (64 :: r) = cont 2 (f ++ [[64]]) r := by
  rw [cont0, cont2, tok_cons, if_neg (by rw [cB_at]; decide), if_pos rfl]; rfl
theorem cont_word {c : Nat} (h : cW c = true) (f : List (List Nat)) (r : List Nat) : cont 0 f (c :: r) = cont 1 (f ++ [[c]]) r := by
  rw [cont0, cont1, tok_cons, if_neg (by rw [cW_B h]; decide), if_neg (cW_ne h), if_pos h]; rfl
theorem cont_odd {c : Nat} (hb : cB c = false) (h : cW c = false) (ha : c ≠ 64) (f : List (List Nat)) (r : List Nat) : cont 0 f (c :: r) = cont 0 (f ++ [[c]]) r := by
  rw [cont0, cont0, tok_cons, if_neg (by rw [hb]; decide), if_neg ha, if_neg (by rw [h]; decide), List.append_assoc]; rfl
theorem cont_end1 (g : List (List Nat)) (t : List Nat) : cont 1 (g ++ [t]) [] = g ++ [t] := by
  rw [cont1]; show g ++ [t ++ []] = _; rw [List.append_nil]
theorem cont_end2 (g : List (List Nat)) (t : List Nat) : cont 2 (g ++ [t]) [] = g ++ [t] := by
  rw [cont2]; show g ++ [t ++ []] = _; rw [List.append_nil]
theorem cont_end0 (f : List (List Nat)) : cont 0 f [] = f := by
  rw [cont0, tok_nil, List.append_nil]
/-! #### tokens put together -/
/-- blanks and line feeds alone -/
def Bl (g : List Nat) : Prop := ∀ c ∈ g, cB c = true
/-- a token -/
def Tk (t : List Nat) : Prop := (∃ c, t = [c] ∧ cB c = false ∧ cW c = false ∧ c ≠ 64) ∨ (∃ r, t = 64 :: r ∧ ∀ c ∈ r, cL c = true) ∨ (t ≠ [] ∧ ∀ c ∈ t, cW c = true)
/-- the one runs on into the other -/
def runs (t u : List Nat) : Bool := if t.headD 0 = 64 then cL (u.headD 0) else cW (t.headD 0) && cW (u.headD 0)
theorem tok_gap : ∀ (g r : List Nat), Bl g → tok (g ++ r) = tok r
  | [], _, _ => rfl
  | c :: g, r, h => by
    rw [List.cons_append, tok_cons, if_pos (h c List.mem_cons_self)]
    exact tok_gap g r fun z hz => h z (List.mem_cons_of_mem _ hz)
theorem take_all {p : Nat → Bool} : ∀ (t r : List Nat), (∀ c ∈ t, p c = true) → (∀ c r', r = c :: r' → p c = false) → (t ++ r).takeWhile p = t ∧ (t ++ r).dropWhile p = r
  | [], [], _, _ => ⟨rfl, rfl⟩
  | [], c :: r, _, h => by
    have e := h c r rfl
    rw [List.nil_append, List.takeWhile_cons_of_neg (by rw [e]; decide), List.dropWhile_cons_of_neg (by rw [e]; decide)]
    exact ⟨rfl, rfl⟩
  | c :: t, r, ht, h => by
    have ⟨a, b⟩ := take_all t r (fun z hz => ht z (List.mem_cons_of_mem _ hz)) h
    rw [List.cons_append, List.takeWhile_cons_of_pos (ht c List.mem_cons_self), List.dropWhile_cons_of_pos (ht c List.mem_cons_self), a, b]
    exact ⟨rfl, rfl⟩
theorem tok_tok {t r : List Nat} (h : Tk t) (hr : r = [] ∨ runs t r = false) : tok (t ++ r) = t :: tok r := by
  rcases h with ⟨c, rfl, hb, hw, ha⟩ | ⟨u, rfl, hu⟩ | ⟨hn, hw⟩
  · show tok (c :: r) = _
    rw [tok_cons, if_neg (by rw [hb]; decide), if_neg ha, if_neg (by rw [hw]; decide)]
  · have hs : ∀ c r', r = c :: r' → cL c = false := by
      intro c r' e
      rcases hr with z | z
      · rw [z] at e; cases e
      · subst e; exact z
    have ⟨a, b⟩ := take_all u r hu hs
    rw [List.cons_append, tok_cons, if_neg (by rw [cB_at]; decide), if_pos rfl, a, b]
  · cases t with
    | nil => exact absurd rfl hn
    | cons c u =>
      have hc := hw c List.mem_cons_self
      have hs : ∀ x r', r = x :: r' → cW x = false := by
        intro x r' e
        rcases hr with z | z
        · rw [z] at e; cases e
        · subst e
          unfold runs at z
          rw [show (c :: u).headD 0 = c from rfl, if_neg (cW_ne hc), hc] at z
          exact z
      have ⟨a, b⟩ := take_all u r (fun z hz => hw z (List.mem_cons_of_mem _ hz)) hs
      rw [List.cons_append, tok_cons, if_neg (by rw [cW_B hc]; decide), if_neg (cW_ne hc), if_pos hc, a, b]
/-- tokens and the gaps behind them, put into one row -/
def mixed : List (List Nat) → List (List Nat) → List Nat
  | t :: ts, g :: gs => t ++ (g ++ mixed ts gs)
  | _, _ => []
/-- what is asked of a gap behind token k -/
def need (ts : List (List Nat)) (k : Nat) : Bool := match ts[k]?, ts[k + 1]? with
  | some t, some u => runs t u
  | _, _ => false
theorem runs_bl {t g r : List Nat} (hn : g ≠ []) (hg : Bl g) : runs t (g ++ r) = false := by
  cases g with
  | nil => exact absurd rfl hn
  | cons c g =>
    have hb := hg c List.mem_cons_self
    have hw : cW c = false := by
      cases e : cW c with
      | false => rfl
      | true => rw [cW_B e] at hb; cases hb
    have hl : cL c = false := by
      cases e : cL c with
      | false => rfl
      | true => rw [cL_W e] at hw; cases hw
    unfold runs
    rw [List.cons_append]
    show (if t.headD 0 = 64 then cL c else cW (t.headD 0) && cW c) = false
    rw [hl, hw, Bool.and_false]
    split <;> rfl
theorem runs_head {t u r : List Nat} (hu : u ≠ []) : runs t (u ++ r) = runs t u := by
  cases u with
  | nil => exact absurd rfl hu
  | cons c u => rfl
theorem Tk.ne {t : List Nat} (h : Tk t) : t ≠ [] := by
  rcases h with ⟨c, rfl, _⟩ | ⟨r, rfl, _⟩ | ⟨h, _⟩
  · exact fun e => by cases e
  · exact fun e => by cases e
  · exact h
theorem tok_mixed : ∀ (ts gs : List (List Nat)), (∀ t ∈ ts, Tk t) → gs.length = ts.length → (∀ k g, gs[k]? = some g → Bl g ∧ (need ts k = true → g ≠ [])) → tok (mixed ts gs) = ts
  | [], [], _, _, _ => rfl
  | [], _ :: _, _, h, _ => by cases h
  | _ :: _, [], _, h, _ => by cases h
  | t :: ts, g :: gs, ht, hl, hg => by
    have ih := tok_mixed ts gs (fun u hu => ht u (List.mem_cons_of_mem _ hu)) (Nat.succ.inj hl) (fun k g' e => by
      have := hg (k + 1) g' e
      exact this)
    obtain ⟨hb, hne⟩ := hg 0 g rfl
    show tok (t ++ (g ++ mixed ts gs)) = t :: ts
    rw [tok_tok (ht t List.mem_cons_self), tok_gap g _ hb, ih]
    by_cases e : g = []
    · subst e
      rw [List.nil_append]
      cases ts with
      | nil => exact .inl (by cases gs <;> rfl)
      | cons u us =>
        cases gs with
        | nil => cases hl
        | cons g2 gs2 =>
          refine .inr ?_
          show runs t (u ++ (g2 ++ mixed us gs2)) = false
          rw [runs_head (ht u (List.mem_cons_of_mem _ List.mem_cons_self)).ne]
          cases q : runs t u with
          | false => rfl
          | true => exact absurd rfl (hne q)
    · exact .inr (runs_bl e hb)
/-! #### small things -/
theorem take_succ' {α : Type} {l : List α} {i : Nat} {x : α} (h : l[i]? = some x) : l.take (i + 1) = l.take i ++ [x] := by
  rw [List.take_add_one, h]; rfl
theorem big_ok {n : Nat} (h : n ≤ 100000) : n ≤ sizeLine := Nat.le_trans h (by decide)
theorem get_sV {ts : List (List Nat)} {i : Nat} {t : List Nat} (h : ts[i]? = some t) : (ts.map sV)[i]? = some (sV t) := by
  rw [List.getElem?_map, h]; rfl
theorem drop_at {zs : List Nat} {i c : Nat} (h : zs[i]? = some c) : zs.drop i = c :: zs.drop (i + 1) := by
  have ⟨h1, h2⟩ := List.getElem?_eq_some_iff.mp h
  rw [List.drop_eq_getElem_cons h1, h2]
theorem same_mut {H H' : Hp} {p : Addr} {o : HO} (a : Same H H') (hp : H p = none) : Same H (upd H' p o) := fun x u h => by
  rw [upd_ne (ne_of_none h hp)]; exact a x u h
theorem same_upd {H H' : Hp} {p : Addr} {o : HO} (a : Same H H') (hp : H' p = none) : Same H (upd H' p o) := fun x u h => by
  have h2 := a x u h
  rw [upd_ne (ne_of_none h2 hp)]; exact h2
theorem dec_sign (c : Nat) (z : Str) (e : Nat) (hz : z = mkS [e]) : decide (V.str ⟨#[c]⟩ = V.str z) = decide (c = e) := by
  rw [hz]
  by_cases h : c = e
  · subst h; rw [decide_eq_true rfl]; exact decide_eq_true rfl
  · rw [decide_eq_false h]
    refine decide_eq_false fun q => h ?_
    have e2 : mkS [c] = mkS [e] := V.str.inj q
    have e3 := mkS_inj e2
    injection e3
theorem tf (b : Bool) : b = true ∨ b = false := by cases b <;> simp
theorem bl_of {p : Prop} [Decidable p] {b : Bool} (h : decide p = b) : V.bl (decide p) = V.bl b := congrArg V.bl h
theorem at_mk : (("@" : Str)) = mkS [64] := by decide +kernel
/-! ### texts put together -/
theorem empty_mk : (("" : Str)) = mkS [] := by decide +kernel
theorem map_sV (zss : List (List Nat)) : zss.map sV = (zss.map mkS).map V.str := by
  rw [List.map_map]; rfl
theorem sum_len : ∀ zss : List (List Nat), ((zss.map mkS).map (·.length)).sum = zss.flatten.length
  | [] => rfl
  | z :: r => by
    rw [List.map_cons, List.map_cons, List.sum_cons, sum_len r, List.flatten_cons, List.length_append, mkS_len]
theorem joinL_nil : ∀ zss : List (List Nat), joinL [] zss = zss.flatten
  | [] => rfl
  | [z] => by show z = z ++ []; rw [List.append_nil]
  | z :: y :: r => by
    show z ++ ([] ++ joinL [] (y :: r)) = z ++ (y :: r).flatten
    rw [List.nil_append, joinL_nil (y :: r)]
theorem join_mk (zss : List (List Nat)) : Txt.join ("" : Str) (zss.map mkS) = mkS zss.flatten := by
  have h : tl (Txt.join ("" : Str) (zss.map mkS)) = zss.flatten := by
    rw [join_eq, tl_join, show (zss.map mkS).map tl = zss from (by rw [List.map_map]; exact List.map_id'' (fun _ => rfl) zss), empty_mk]
    exact joinL_nil zss
  rw [← h]; rfl
theorem flat_len {B : Nat} : ∀ {zss : List (List Nat)}, (∀ z ∈ zss, z.length ≤ B) → zss.flatten.length ≤ zss.length * B
  | [], _ => Nat.zero_le _
  | z :: r, h => by
    have ih := flat_len (zss := r) fun y hy => h y (List.mem_cons_of_mem _ hy)
    have hz := h z List.mem_cons_self
    rw [List.flatten_cons, List.length_append, List.length_cons, Nat.succ_mul]
    omega
theorem flat_one : ∀ {zss : List (List Nat)}, (∀ z ∈ zss, z.length = 1) → zss.flatten.length = zss.length
  | [], _ => rfl
  | z :: r, h => by
    rw [List.flatten_cons, List.length_append, List.length_cons, flat_one fun y hy => h y (List.mem_cons_of_mem _ hy), h z List.mem_cons_self]
    omega
theorem blank_mk : ((" " : Str)) = mkS [32] := by decide +kernel
theorem feed_mk : (("\n" : Str)) = mkS [10] := by decide +kernel
end Vf

set_option Elab.async false
set_option linter.all false
set_option maxRecDepth 100000
set_option maxHeartbeats 4000000
namespace Vf
open PySem PySem.Spec PyProof.Rows L2
/-! ### tuples of signs, sorted -/
inductive SgsAre : List Value → List Nat → Prop
  | nil : SgsAre [] []
  | cons (c : Nat) (t : Tok) {vs : List Value} {cs : List Nat} : SgsAre vs cs → SgsAre (.str ⟨#[c]⟩ t :: vs) (c :: cs)
theorem SgsAre.length {vs : List Value} {cs : List Nat} (h : SgsAre vs cs) : vs.length = cs.length := by
  induction h with
  | nil => rfl
  | cons c t _ ih => rw [List.length_cons, List.length_cons, ih]
theorem sgs_of : ∀ {cs : List Nat} {us : List Value}, Vals (cs.map fun c => V.str ⟨#[c]⟩) us → SgsAre us cs
  | [], _, .nil => .nil
  | c :: cs, _, .cons r t => by
    obtain ⟨k, rfl⟩ := r
    exact .cons c k (sgs_of t)
theorem sgs_uniq {vs : List Value} {cs ds : List Nat} (h : SgsAre vs cs) (h2 : SgsAre vs ds) : cs = ds := by
  induction h generalizing ds with
  | nil => cases h2; rfl
  | cons c t _ ih =>
    cases h2 with
    | cons d t2 h2 => rw [ih h2]
def TupSg (h : Heap) (v : Value) (cs : List Nat) : Prop := ∃ a xs, v = .ref a ∧ IsTup h a xs ∧ SgsAre xs.toList cs
theorem TupSg.keeps {h h' : Heap} {v : Value} {cs : List Nat} (x : TupSg h v cs) (k : ∀ b o, h.get? b = some o → o.cls = .type "tuple" → h'.get? b = some o) : TupSg h' v cs := by
  obtain ⟨a, xs, e, ⟨o, ho, hc, hd⟩, i⟩ := x
  exact ⟨a, xs, e, ⟨o, k _ _ ho hc, hc, hd⟩, i⟩
theorem TupSg.uniq {h : Heap} {v : Value} {cs ds : List Nat} (x : TupSg h v cs) (y : TupSg h v ds) : cs = ds := by
  obtain ⟨a, xs, e, ⟨o, ho, hc, n, hd⟩, i⟩ := x
  obtain ⟨a2, ys, e2, ⟨o2, ho2, hc2, n2, hd2⟩, i2⟩ := y
  rw [e] at e2
  cases e2
  rw [ho] at ho2
  cases ho2
  rw [hd] at hd2
  injection hd2 with h1 h2
  subst h1
  exact sgs_uniq i i2
def nats (cs : List Nat) : List Int := cs.map fun c : Nat => (c : Int)
open Classical in
/-- the signs of a tuple, read off the heap -/
noncomputable def sgsOf (h : Heap) (v : Value) : List Nat := if x : ∃ cs, TupSg h v cs then x.choose else []
theorem TupSg.sgs {h : Heap} {v : Value} {cs : List Nat} (x : TupSg h v cs) : sgsOf h v = cs := by
  have y : ∃ cs, TupSg h v cs := ⟨cs, x⟩
  unfold sgsOf
  rw [dif_pos y]
  exact y.choose_spec.uniq x
section
variable {prog : Program} {w : World} {A : Around} {E : Value → Shared → Prop} {s : Shared} {Q : Bool → Shared → Prop}
theorem oneLt_sg (b : Bool) {p q : Nat} {t u : Tok} (h : Q (decide (p < q)) s) : wpAny (model prog w) A (oneLt' b (.str ⟨#[p]⟩ t) (.str ⟨#[q]⟩ u)) Q E s := by
  have e : decide ((⟨#[p]⟩ : Str).cps.toList < (⟨#[q]⟩ : Str).cps.toList) = decide (p < q) := by
    refine decide_eq_decide.mpr ?_
    show [p] < [q] ↔ p < q
    rw [List.cons_lt_cons_iff]
    constructor
    · rintro (h | ⟨_, h⟩)
      · exact h
      · exact absurd h (List.lt_irrefl _)
    · exact fun h => .inl h
  cases b with
  | true => exact oneLt_str (by rw [e]; exact h)
  | false => exact PySem.W.kat_one _ _ (PyProof.Rows.lt_str (Q := PySem.W.BoolBack Q) (by rw [e]; exact h))
theorem lex_sgs {B : Int} {b : Bool} {xs ys : List Value} {cs ds : List Nat} (i : Nat) (hx : SgsAre xs cs) (hy : SgsAre ys ds) (hl : cs.length = ds.length) (h1 : TS.Bd B (nats cs)) (h2 : TS.Bd B (nats ds))
    (h : Q (decide (TS.code B (nats cs) < TS.code B (nats ds))) s) : PySem.W.KatLex prog w A b false Q (xs.zip ys) i s := by
  induction hx generalizing ys ds i with
  | nil =>
    cases hy with
    | nil =>
      have e : decide (TS.code B (nats []) < TS.code B (nats [])) = false := decide_eq_false (Int.lt_irrefl _)
      rw [e] at h
      exact PySem.W.kat_nil h
    | cons d u hy => simp at hl
  | @cons c t xs cs hx ih =>
    cases hy with
    | nil => simp at hl
    | @cons d u ys ds hy =>
      have hl' : cs.length = ds.length := by simpa using hl
      have hl2 : (nats cs).length = (nats ds).length := by unfold nats; rw [List.length_map, List.length_map, hl']
      show PySem.W.KatLex prog w A b false Q ((Value.str ⟨#[c]⟩ t, Value.str ⟨#[d]⟩ u) :: xs.zip ys) i s
      refine PySem.W.kat_cons (wpAny_eqBool_str ?_)
      by_cases e : c = d
      · subst e
        rw [decide_eq_true rfl]
        have dd : decide (TS.code B (nats (c :: cs)) < TS.code B (nats (c :: ds))) = decide (TS.code B (nats cs) < TS.code B (nats ds)) := decide_eq_decide.mpr (TS.code_same (d := (c : Int)) hl2)
        rw [dd] at h
        exact PySem.W.kat_yes (ih (i + 1) hy hl' h1.tail h2.tail h)
      · have ne : ¬ ((⟨#[c]⟩ : Str) = ⟨#[d]⟩) := fun z => e (by injection z with z; injection z with z; injection z)
        rw [decide_eq_false ne]
        refine PySem.W.kat_no (oneLt_sg _ ?_)
        have dd : decide (TS.code B (nats (c :: cs)) < TS.code B (nats (d :: ds))) = decide (c < d) := by
          refine decide_eq_decide.mpr ⟨fun x => ?_, fun x => TS.code_lt (d := (c : Int)) (e := (d : Int)) hl2 h1.tail h2.tail (by omega)⟩
          rcases Nat.lt_trichotomy c d with y | y | y
          · exact y
          · exact absurd y e
          · have := TS.code_lt hl2.symm h2.tail h1.tail (show ((d : Nat) : Int) < (c : Int) by omega)
            have x2 : TS.code B ((c : Int) :: nats cs) < TS.code B ((d : Int) :: nats ds) := x
            omega
        rw [dd] at h
        exact h
end
def TupsSg (h : Heap) (d : Nat) (B : Int) (vs : List Value) : Prop := ∀ v, v ∈ vs → ∃ cs, TupSg h v cs ∧ cs.length = d ∧ TS.Bd B (nats cs)
theorem TupsSg.keeps {h h' : Heap} {d : Nat} {B : Int} {vs : List Value} (x : TupsSg h d B vs) (k : ∀ b o, h.get? b = some o → o.cls = .type "tuple" → h'.get? b = some o) : TupsSg h' d B vs := fun v hv =>
  let ⟨ns, t, r⟩ := x v hv; ⟨ns, t.keeps k, r⟩
theorem firsts_sg {h : Heap} {d : Nat} {B : Int} (hd : 1 ≤ d) : ∀ vs : List Value, TupsSg h d B vs → ∃ fs, PySem.W.KatTups h vs fs ∧ fs.length = vs.length ∧ ∀ f, f ∈ fs → ∃ z t, f = Value.str z t
  | [], _ => ⟨[], PySem.W.KatTups.nil, rfl, fun f hf => by simp at hf⟩
  | v :: vs, x => by
    obtain ⟨fs, k, hl, hi⟩ := firsts_sg hd vs fun u hu => x u (List.mem_cons_of_mem _ hu)
    obtain ⟨cs, ⟨a, xs, rfl, ⟨o, ho, hc, n, hdt⟩, i⟩, hn, _⟩ := x v (List.mem_cons_self ..)
    cases q : xs.toList with
    | nil =>
      rw [q] at i
      have l := i.length
      rw [List.length_nil, hn] at l
      omega
    | cons y ys =>
      rw [q] at i
      cases i with
      | cons c t i2 =>
        refine ⟨.str ⟨#[c]⟩ t :: fs, PySem.W.KatTups.cons ho hc hdt ?_ k, by simp [hl], ?_⟩
        · have z := congrArg (fun l : List Value => l[0]?) q
          simpa using z
        · intro f hf
          rcases List.mem_cons.mp hf with rfl | hf
          · exact ⟨_, t, rfl⟩
          · exact hi f hf
section
variable {prog : Program} {w : World} {A : Around} {E : Value → Shared → Prop} {s : Shared}
theorem kind_sg {d : Nat} {B : Int} {vs : List Value} (hd : 1 ≤ d) (h2 : 2 ≤ vs.length) (x : TupsSg s.heap d B vs) (r : Value → Int) (hr : ∀ v, v ∈ vs → ∀ cs, TupSg s.heap v cs → r v = TS.code B (nats cs)) (Q : SortKind → Shared → Prop)
    (h : ∀ κ, TS.Cmp prog w A s κ (pairsOf vs) r → Q κ s) : wpAny (model prog w) A (keyKind' vs.toArray) Q E s := by
  obtain ⟨fs, k, hl, hi⟩ := firsts_sg hd vs x
  refine PySem.W.kat_kind (T := Value.type "str") k (by omega) (fun f hf => ?_) rfl (h _ ?_)
  · obtain ⟨n, t, rfl⟩ := hi f hf
    exact PySem.W.Looks.of_pure rfl
  · intro p q hp hq Q' E' hQ
    rw [pairsOf_toList] at hp hq
    obtain ⟨ns, tp, lp, bp⟩ := x _ (mem_zip_self hp).2
    obtain ⟨ms, tq, lq, bq⟩ := x _ (mem_zip_self hq).2
    have ep := hr _ (mem_zip_self hp).2 _ tp
    have eq2 := hr _ (mem_zip_self hq).2 _ tq
    have hQ' : Q' (decide (TS.code B (nats ns) < TS.code B (nats ms))) s := by
      have z : decide (r p.1 < r q.1) = decide (TS.code B (nats ns) < TS.code B (nats ms)) := by rw [ep, eq2]
      rw [← z]; exact hQ
    obtain ⟨a, xs, e1, ⟨o, ho, hc, n, hdt⟩, i⟩ := tp
    obtain ⟨a', ys, e2, ⟨o', ho', hc', n', hdt'⟩, i'⟩ := tq
    rw [e1, e2]
    refine PySem.W.kat_lt ho hdt ho' hdt' ?_
    have sz : decide (xs.size < ys.size) = false := by
      have l1 := i.length
      have l2 := i'.length
      rw [Array.length_toList] at l1 l2
      exact decide_eq_false (by omega)
    rw [sz]
    exact lex_sgs 0 i i' (by omega) bp bq hQ'
/-- list.sort of a list of tuples of signs -/
theorem sort_sgs {a : Addr} {vs : List Value} {n d : Nat} {B : Int} {P : PySem.Fin → Shared → Prop} (ho : s.heap.get? a = some (seqObj "list" vs.toArray n)) (h64 : vs.length < 64) (hd : 1 ≤ d) (x : TupsSg s.heap d B vs)
    (r : Value → Int) (hr : ∀ v, v ∈ vs → ∀ cs, TupSg s.heap v cs → r v = TS.code B (nats cs))
    (h : ∀ out : Array Value, out.toList.Perm vs → out.toList.Pairwise (fun u v => r u ≤ r v) → P (.done (.ret .none)) { s with heap := sortedHeap s.heap a vs out }) :
    wpAny (model prog w) A (Builtin.«list.sort» ⟨[.ref a], []⟩) P E s := by
  have keep : ∀ b o, s.heap.get? b = some o → o.cls = .type "tuple" → (TS.midHeap s.heap a vs).get? b = some o := fun b o e hc => by
    refine TS.midHeap_old ?_ e
    rintro rfl
    rw [ho] at e
    have e' : seqObj "list" vs.toArray n = o := Option.some.inj e
    rw [← e'] at hc
    have c' : Value.type "list" = Value.type "tuple" := hc
    injection c' with c''
    exact absurd c'' (by decide)
  refine SK.plain_sort (r := r) ho h64 (fun h2 Q hQ => ?_) fun ps out h1 h2 h3 => ?_
  · refine kind_sg (s := { s with heap := TS.midHeap s.heap a vs }) hd h2 (x.keeps keep) r (fun v hv cs t => ?_) Q hQ
    obtain ⟨cs0, t0, _⟩ := x v hv
    have e : cs = cs0 := t.uniq (t0.keeps keep)
    rw [e]
    exact hr v hv cs0 t0
  · obtain ⟨p, o⟩ := TS.out_rank h1 h2 h3
    exact h out p o
end
section
variable {X : Cx}
/-- sorted(d) of a dict with fewer than 64 keys, all tuples of two signs -/
def rSortedDS : List V → Hp → VK → Prop := fun xs H Q => ∃ (a : Addr) (kvs : List (List Key × V)) (ks : List (Nat × Nat)), xs = [.ref a] ∧ Rd H a (.dT kvs) ∧ kvs.map (·.1) = ks.map (fun k => [Sum.inr ⟨#[k.1]⟩, Sum.inr ⟨#[k.2]⟩]) ∧ ks.length < 64 ∧ (∀ k ∈ ks, k.1 < 2000000 ∧ k.2 < 2000000) ∧
    ∀ (ys : List (Addr × Nat × Nat)) (p : Addr), (ys.map (·.2)).Perm ks → (ys.map (·.2)).Pairwise (fun a b => a.1 < b.1 ∨ (a.1 = b.1 ∧ a.2 ≤ b.2)) → (∀ y ∈ ys, H y.1 = some (.tup [.str ⟨#[y.2.1]⟩, .str ⟨#[y.2.2]⟩])) → H p = none → Q (.ref p) (upd H p (.lst (ys.map fun y => V.ref y.1)))
theorem perm_lift {α β : Type} {f : α → β} : ∀ {l : List α} {m : List β}, m.Perm (l.map f) → ∃ l' : List α, l'.Perm l ∧ l'.map f = m := by
  intro l m h
  generalize e : l.map f = n at h
  induction h generalizing l with
  | nil =>
    cases l with
    | nil => exact ⟨[], .nil, rfl⟩
    | cons _ _ => cases e
  | @cons x l1 l2 h ih =>
    cases l with
    | nil => cases e
    | cons y r =>
      injection e with e1 e2
      obtain ⟨l', p, q⟩ := ih e2
      exact ⟨y :: l', p.cons y, by rw [List.map_cons, q, e1]⟩
  | swap x y r =>
    match l, e with
    | a :: b :: l, e =>
      injection e with e1 e2
      injection e2 with e2 e3
      exact ⟨b :: a :: l, .swap a b l, by rw [List.map_cons, List.map_cons, e1, e2, e3]⟩
  | trans h1 h2 ih1 ih2 =>
    obtain ⟨l', p, q⟩ := ih2 e
    obtain ⟨l'', p2, q2⟩ := ih1 q
    exact ⟨l'', p2.trans p, q2⟩
theorem call_sortedDS (hcalm : X.calm = true) : CallR X (.builtin "sorted") rSortedDS := by
  intro pins s σ H xs us Q I r q
  obtain ⟨d, kvs, ks0, ex, hd, hks, h64, hbd, q⟩ := q
  subst ex
  obtain ⟨u, rfl, rx⟩ := r.one
  cases rx
  obtain ⟨z, hs, ks, pr, o, es, ep, ho, hx, hdt, he, hn⟩ := (show ObjOk X.prog X.w H s.heap d (.dT kvs) from hd.ok I.hok)
  have l1 : es.size = ks.length := size_of_entries he
  have l2 : kvs.length = ks.length := Paired.length pr
  have l3 : kvs.length = ks0.length := by
    have e := congrArg List.length hks
    rw [List.length_map, List.length_map] at e
    exact e
  have hK : IsKeys H kvs (ks.map fun x => x.2.1) := isKeys_of pr
  generalize hbs : (ks.map fun x => x.2.1) = bs at hK
  have lb : bs.length = ks0.length := by rw [← hbs, List.length_map, ← l2, l3]
  have hb : ∀ (j : Nat) (b : Addr), bs[j]? = some b → ∃ k : Nat × Nat, ks0[j]? = some k ∧ H b = some (.tup [.str ⟨#[k.1]⟩, .str ⟨#[k.2]⟩]) := by
    intro j b hj
    obtain ⟨y, hy, hyb⟩ := L2.DX.pget hK hj
    have hj2 : j < ks0.length := by rw [← lb]; exact (List.getElem?_eq_some_iff.mp hj).1
    refine ⟨ks0[j], List.getElem?_eq_getElem hj2, ?_⟩
    have e := congrArg (fun l => l[j]?) hks
    simp only [List.getElem?_map, hy, List.getElem?_eq_getElem hj2, Option.map_some] at e
    have e2 := Option.some.inj e
    rw [hyb, e2]; rfl
  have hz : ∀ y ∈ bs.zip ks0, H y.1 = some (.tup [.str ⟨#[y.2.1]⟩, .str ⟨#[y.2.2]⟩]) := by
    intro y hy
    obtain ⟨j, hj⟩ := List.mem_iff_getElem?.mp hy
    rw [List.getElem?_zip_eq_some] at hj
    obtain ⟨k, hk, e⟩ := hb j y.1 hj.1
    rw [hj.2] at hk
    have := Option.some.inj hk
    rw [e, this]
  have hzs : (bs.zip ks0).map (·.2) = ks0 := List.map_snd_zip (by omega)
  have hzf : (bs.zip ks0).map (fun y => Value.ref y.1) = bs.map Value.ref := by
    have := congrArg (List.map Value.ref) (List.map_fst_zip (l₁ := bs) (l₂ := ks0) (by omega))
    rw [List.map_map] at this
    exact this
  refine Calls.call_function_entry PyProof.Rows.kind_sorted PyProof.Rows.plain_sorted PyProof.Rows.entry_sorted (PyProof.Rows.args_sorted1 _) ?_
  unfold Builtin.«sorted»
  refine wpAny_bind (m := checkCount "sorted" 1 1 _) (wpAny_pure ?_)
  refine wpAny_bind (PySem.W.kdu_collect (A := X.A.in1) (kdl_raw hs hx hdt) (I.ok.hd hcalm) ho (by omega) fun h' tk acc kp it => ?_)
  have ea : acc.toList = ks.map fun x => Value.ref x.2.1 := by
    have hl : acc.toList.length = ks.length := by rw [Array.length_toList, it.1]; exact l1
    apply List.ext_getElem?
    intro j
    rw [List.getElem?_map]
    cases hj : acc.toList[j]? with
    | none =>
      have h1 := List.getElem?_eq_none_iff.mp hj
      rw [List.getElem?_eq_none (by omega)]
      all_goals rfl
    | some v =>
      obtain ⟨en, hen, hv⟩ := it.2 j v (by rw [← Array.getElem?_toList]; exact hj)
      have qe := entry_at he j
      rw [hen] at qe
      cases hb : ks[j]? with
      | none =>
        rw [hb] at qe
        exact nomatch (show some en = none from qe)
      | some b =>
        rw [hb] at qe
        have e2 : en = entryOfKey (tupleKind (mixKind X.prog X.w)) b := Option.some.inj qe
        rw [hv, e2]
        all_goals rfl
  have eb : acc.toList = (bs.zip ks0).map fun y => Value.ref y.1 := by rw [ea, hzf, ← hbs, List.map_map]; all_goals rfl
  have lz : (bs.zip ks0).length = ks0.length := by rw [List.length_zip]; omega
  have I1 : Inv X pins σ H { s with heap := h', toks := tk } := I.kept kp
  have tsg : ∀ y ∈ bs.zip ks0, TupSg h' (.ref y.1) [y.2.1, y.2.2] := by
    intro y hy
    obtain ⟨its, rv, ht, _⟩ := I1.tuple (.inl (.inl (hz y hy)))
    exact ⟨y.1, its.toArray, rfl, ht, by simpa using sgs_of (cs := [y.2.1, y.2.2]) rv⟩
  have bd : ∀ y ∈ bs.zip ks0, y.2.1 < 2000000 ∧ y.2.2 < 2000000 := fun y hy => hbd y.2 (by rw [← hzs]; exact List.mem_map.mpr ⟨y, hy, rfl⟩)
  rw [eb]
  refine wpAny_bind (wpAny_newList ?_ (by rw [List.length_map, lz, sizeLine_eq]; omega))
  have hoL : (h'.push (seqObj "list" ((bs.zip ks0).map fun y => Value.ref y.1).toArray 0)).get? h'.objs.size = some (seqObj "list" ((bs.zip ks0).map fun y => Value.ref y.1).toArray 0) := Heap.get?_push_size _ rfl
  show wpAny _ _ _ _ _ { s with heap := h'.push (seqObj "list" ((bs.zip ks0).map fun y => Value.ref y.1).toArray 0), toks := tk }
  have keep : ∀ b o, h'.get? b = some o → o.cls = .type "tuple" → (h'.push (seqObj "list" ((bs.zip ks0).map fun y => Value.ref y.1).toArray 0)).get? b = some o := fun b o e _ => Heap.get?_push_of_some _ e
  have hsg : ∀ v ∈ (bs.zip ks0).map (fun y => Value.ref y.1), ∃ cs, TupSg h' v cs ∧ cs.length = 2 ∧ TS.Bd 2000000 (nats cs) := by
    intro v hv
    obtain ⟨y, hy, rfl⟩ := List.mem_map.mp hv
    refine ⟨_, tsg y hy, rfl, fun m hm => ?_⟩
    have b := bd y hy
    have hm : m ∈ [((y.2.1 : Nat) : Int), ((y.2.2 : Nat) : Int)] := hm
    simp only [List.mem_cons, List.not_mem_nil, or_false] at hm
    rcases hm with rfl | rfl <;> omega
  refine wpAny_bind (wpAny_holding (wpAny_call_entry PyProof.Rows.slot_list_sort ⟨_, hoL, rfl⟩ PyProof.Rows.entry_list_sort
    (sort_sgs (s := { s with heap := h'.push (seqObj "list" ((bs.zip ks0).map fun y => Value.ref y.1).toArray 0), toks := tk }) (d := 2) (B := 2000000) hoL (by rw [List.length_map, lz]; exact h64) (by decide)
      (fun v hv => by obtain ⟨cs, t, r⟩ := hsg v hv; exact ⟨cs, t.keeps keep, r⟩) (fun v => TS.code 2000000 (nats (sgsOf h' v))) (fun v hv cs t => by
        obtain ⟨cs0, t0, _⟩ := hsg v hv
        have e : cs = cs0 := t.uniq (t0.keeps keep)
        rw [e]
        show TS.code 2000000 (nats (sgsOf h' v)) = _
        rw [t0.sgs]) fun out g1 g2 => ⟨_, rfl, ?_⟩)
    (PyProof.Rows.args_list_sort _)))
  obtain ⟨ys, p1, p2⟩ := perm_lift g1
  have ym : ∀ y ∈ ys, y ∈ bs.zip ks0 := fun y hy => p1.mem_iff.mp hy
  obtain ⟨e', he'⟩ := PyProof.Rows.sortedHeap_at (vs := (bs.zip ks0).map fun y => Value.ref y.1) (out := out) hoL
  have hlen : (ys.map fun y => V.ref y.1).length ≤ sizeLine := by
    rw [List.length_map, p1.length_eq, lz]
    exact Nat.le_trans (Nat.le_of_lt h64) (by decide)
  have vr : ∀ l : List (Addr × Nat × Nat), Vals (l.map fun y => V.ref y.1) (l.map fun y => Value.ref y.1) := fun l => by
    induction l with
    | nil => exact .nil
    | cons y r ih => exact .cons rfl ih
  refine wpAny_pure ⟨_, rfl, .ref h'.objs.size, upd H h'.objs.size (.lst (ys.map fun y => V.ref y.1)), I1.laid (t' := tk) (fun b u e => ?_) (Nat.le_refl _)
    (show ObjOk X.prog X.w _ _ _ (.lst (ys.map fun y => V.ref y.1)) from ⟨hlen, out.toList, e', by rw [← p2]; exact vr ys, by rw [Array.toArray_toList]; exact he'⟩), rfl, q ys _ ?_ ?_ (fun y hy => hz y (ym y hy)) (I1.hok.fresh (Nat.le_refl _))⟩
  · have hb : b < h'.objs.size := Heap.lt_size e
    rw [PyProof.Rows.sortedHeap_old (Nat.ne_of_lt hb) (by rw [size_push']; exact Nat.lt_succ_of_lt hb)]
    exact Heap.get?_push_of_some _ e
  · rw [← hzs]; exact p1.map _
  · rw [← p2, List.pairwise_map] at g2
    rw [List.pairwise_map]
    refine List.Pairwise.imp_of_mem (fun {x y} hx hy h => ?_) g2
    rw [(tsg x (ym x hx)).sgs, (tsg y (ym y hy)).sgs] at h
    have b1 := bd x (ym x hx)
    have b2 := bd y (ym y hy)
    have h : ((x.2.1 : Nat) : Int) * 2000000 ^ 1 + (((x.2.2 : Nat) : Int) * 2000000 ^ 0 + 0) ≤ ((y.2.1 : Nat) : Int) * 2000000 ^ 1 + (((y.2.2 : Nat) : Int) * 2000000 ^ 0 + 0) := h
    omega
end

/-! ### t < u of tuples of texts -/
def lexS : List Str → List Str → Bool
  | [], [] => false
  | [], _ :: _ => true
  | _ :: _, [] => false
  | x :: xs, y :: ys => if x = y then lexS xs ys else decide (x.cps.toList < y.cps.toList)
section
open PySem.SeqAt
open PySem.AutoSeq1 (wpAny_loadPart')
open PySem.MeetsSeq PySem.MeetsSeq2 PySem.MeetsSeq3
theorem tuple_lt_strs (l b : Addr) (items items2 : Array Value) (n n2 : Nat) (dd dd2 : Option Addr) (sl sl2 : Array (Option Value)) (ns ms : List Str) (hi : StrsAre items.toList ns) (hj : StrsAre items2.toList ms) :
    Meets (Builtin.«tuple.__lt__» ⟨[.ref l, .ref b], []⟩)
      (fun _ R s => s.heap.get? l = some { cls := .type "tuple", dict := dd, data := .seq items n, slots := sl } ∧ s.heap.get? b = some { cls := .type "tuple", dict := dd2, data := .seq items2 n2, slots := sl2 } ∧
        R (.ok (.ret (.bool (lexS ns ms)))) s) :=
  .of_wp fun prog w A R s h => by
    obtain ⟨hp, g, d, tk, os⟩ := s; obtain ⟨hl, hb, h⟩ := h
    have f2 := AutoSeq1.sub_tuple_tuple
    have z1 : items.size = ns.length := by rw [← hi.length]; simp
    have z2 : items2.size = ms.length := by rw [← hj.length]; simp
    wp_walk using wpAny_loadPart' hl, wpAny_loadPart' hb, wpAny_forIn_list _ (fun rest b s' => b.1 = none ∧ s' = ⟨hp, g, d, tk, os⟩ ∧ ∃ (vs ws : List Value) (ns' ms' : List Str), rest = vs.zip ws ∧
      StrsAre vs ns' ∧ StrsAre ws ms' ∧ ns'.length + items2.size = ms'.length + items.size ∧ R (.ok (.ret (.bool (lexS ns' ms')))) ⟨hp, g, d, tk, os⟩) _
    case turn =>
      rintro ⟨y, x⟩ rest b s' ⟨hb', rfl, vs, ws, ns', ms', hz, hvi, hwi, hlen, hR⟩
      cases hvi with
      | nil => rw [List.zip_nil_left] at hz; cases hz
      | cons a t hvi' =>
        cases hwi with
        | nil => rw [List.zip_nil_right] at hz; cases hz
        | cons c u hwi' =>
          rw [List.zip_cons_cons] at hz
          injection hz with hyx hrest
          injection hyx with hy hx
          subst hy hx
          have e0 : ∀ p q : List Str, lexS (a :: p) (c :: q) = if a = c then lexS p q else decide (a.cps.toList < c.cps.toList) := fun _ _ => rfl
          rw [e0] at hR
          simp only [List.length_cons] at hlen
          have he := SeqAt.EqAt.str_str (A := A.in1) (s := ⟨hp, g, d, tk, os⟩) a t c u
          by_cases e : a = c
          · rw [show (a == c) = true from beq_iff_eq.mpr e] at he
            refine wpAny_bind (he prog w _ _ ?_)
            rw [if_pos e] at hR
            wp_walk
            exact ⟨rfl, rfl, _, _, _, _, hrest, hvi', hwi', by omega, hR⟩
          · rw [show (a == c) = false from beq_eq_false_iff_ne.mpr e] at he
            refine wpAny_bind (he prog w _ _ ?_)
            rw [if_neg e] at hR
            have hri := DT.rcLt_str A.in1 ⟨hp, g, d, tk, os⟩ a t c u prog w
            wp_walk using hri
            exact ⟨_, rfl, by simpa using hR⟩
    case fin =>
      rintro ⟨b1, b2⟩ s' ⟨hb', rfl, vs, ws, ns', ms', hz, hvi, hwi, hlen, hR⟩
      simp only at hb'
      subst hb'
      have hv : lexS ns' ms' = decide (items.size < items2.size) := by
        cases hvi with
        | nil =>
          cases hwi with
          | nil =>
            simp only [List.length_nil] at hlen
            exact (decide_eq_false (by omega)).symm
          | cons c u hw =>
            simp only [List.length_nil, List.length_cons] at hlen
            exact (decide_eq_true (by omega)).symm
        | cons a t hv =>
          cases hwi with
          | nil =>
            simp only [List.length_nil, List.length_cons] at hlen
            exact (decide_eq_false (by omega)).symm
          | cons c u hw =>
            rw [List.zip_cons_cons] at hz
            cases hz
      rw [hv] at hR
      wp_walk
      exact ⟨_, rfl, by simpa [Builtin.Tuple.tupleCompareSizes] using hR⟩
    case h =>
      exact ⟨rfl, rfl, items.toList, items2.toList, ns, ms, rfl, hi, hj, by omega, h⟩
end
section
variable {prog : Program} {w : World} {A : Around} {E : Value → Shared → Prop} {s : Shared}
theorem lt_tupStrs {l b : Addr} {items items2 : Array Value} {ns ms : List Str} {Q : Value → Shared → Prop} (hl : IsTup s.heap l items) (hb : IsTup s.heap b items2) (hi : StrsAre items.toList ns) (hj : StrsAre items2.toList ms)
    (hu : A.units < cLine) (h : Q (.bool (lexS ns ms)) s) : wpAny (model prog w) A (compareOp .Lt (.ref l) (.ref b)) Q E s := by
  obtain ⟨⟨cls, dd, data, sl⟩, ho, hc, n, hd⟩ := id hl
  obtain ⟨⟨cls2, dd2, data2, sl2⟩, ho2, hc2, n2, hd2⟩ := id hb
  simp only at hc hd hc2 hd2
  subst hc hd hc2 hd2
  exact richCompare_meets_room (op := .Lt) ⟨_, ho, rfl⟩ ⟨_, ho2, rfl⟩ PySem.F.slot_tuple_lt PySem.F.entry_tuple_lt (PySem.F.args_tuple_lt_2 _ _) (tuple_lt_strs l b items items2 n n2 dd dd2 sl sl2 ns ms hi hj)
    ⟨ho, ho2, show Value.bool (lexS ns ms) ≠ Value.notImplemented ∧ Q (.bool (lexS ns ms)) s from ⟨(fun x => nomatch x), h⟩⟩ hu
end
theorem strsAre_of : ∀ {ns : List Str} {us : List Value}, Vals (ns.map V.str) us → StrsAre us ns
  | [], _, .nil => .nil
  | c :: cs, _, .cons r t => by
    obtain ⟨k, rfl⟩ := r
    exact .cons c k (strsAre_of t)
def rLtS (K : PySem.W.Frag) : R2 := fun x y H Q => ∃ (a b : Addr) (ns ms : List Str), x = .ref a ∧ y = .ref b ∧ SqT K H a (ns.map V.str) ∧ SqT K H b (ms.map V.str) ∧ Q (.bl (lexS ns ms)) H
theorem op_ltS {X : Cx} (hu : X.A.units < cLine) : OpR X (compareOp .Lt) (rLtS X.K) := by
  intro pins s σ H x y v u Q I rx ry h
  obtain ⟨a, b, ns, ms, rfl, rfl, ha, hb, q⟩ := h
  cases rx
  cases ry
  obtain ⟨its, r1, p1, _⟩ := I.tuple ha
  obtain ⟨its2, r2, p2, _⟩ := I.tuple hb
  exact lt_tupStrs p1 p2 (by simpa using strsAre_of r1) (by simpa using strsAre_of r2) hu ⟨.bl (lexS ns ms), H, I, rfl, q⟩
end Vf

set_option Elab.async false
set_option linter.all false
set_option maxRecDepth 100000
set_option maxHeartbeats 4000000
namespace Vf
open PySem PySem.Spec PyProof.Rows L2 TL
/-! ### styles, pieces, shapes: the mathematics -/
theorem at_map {α β : Type} {f : α → β} {l : List α} {i : Nat} {y : β} (h : (l.map f)[i]? = some y) : ∃ x, l[i]? = some x ∧ f x = y := by
  rw [List.getElem?_map] at h
  cases e : l[i]? with
  | none => rw [e] at h; cases h
  | some x => rw [e] at h; exact ⟨x, rfl, Option.some.inj h⟩
theorem drop_y {α : Type} {l : List α} {i : Nat} {x : α} (h : l[i]? = some x) : l.drop i = x :: l.drop (i + 1) := by
  have ⟨h1, h2⟩ := List.getElem?_eq_some_iff.mp h
  rw [List.drop_eq_getElem_cons h1, h2]
theorem lt_s {n : Nat} (h : n < 100000) : n < sizeLine := Nat.lt_of_lt_of_le h (by decide)
def sg1 (c : Nat) : Str := ⟨#[c]⟩
def sgn (c : Nat) : V := sV [c]
def look {κ β : Type} [DecidableEq κ] (L : List (κ × β)) (k : κ) : Option β := (L.find? fun r => decide (r.1 = k)).map (·.2)
theorem look_nil {κ β : Type} [DecidableEq κ] (k : κ) : look ([] : List (κ × β)) k = none := rfl
theorem look_hit {κ β : Type} [DecidableEq κ] {r : κ × β} {L : List (κ × β)} : look (r :: L) r.1 = some r.2 := by
  unfold look
  rw [List.find?_cons_of_pos (by simp)]; rfl
theorem look_miss {κ β : Type} [DecidableEq κ] {r : κ × β} {L : List (κ × β)} {k : κ} (h : r.1 ≠ k) : look (r :: L) k = look L k := by
  unfold look
  rw [List.find?_cons_of_neg (by simpa using h)]
theorem look_none {κ β : Type} [DecidableEq κ] {L : List (κ × β)} {k : κ} (h : ∀ r ∈ L, r.1 ≠ k) : look L k = none := by
  induction L with
  | nil => rfl
  | cons r L ih => rw [look_miss (h r List.mem_cons_self)]; exact ih fun x hx => h x (List.mem_cons_of_mem _ hx)
theorem look_mem {κ β : Type} [DecidableEq κ] {L : List (κ × β)} {k : κ} {x : β} (h : look L k = some x) : (k, x) ∈ L := by
  induction L with
  | nil => cases h
  | cons r L ih =>
    by_cases e : r.1 = k
    · subst e
      rw [look_hit] at h
      have : r.2 = x := Option.some.inj h
      subst this
      exact List.mem_cons_self
    · rw [look_miss e] at h
      exact List.mem_cons_of_mem _ (ih h)
theorem look_map {κ κ' β β' : Type} [DecidableEq κ] [DecidableEq κ'] {f : κ → κ'} {g : β → β'} (hf : ∀ a b, f a = f b → a = b) (L : List (κ × β)) (k : κ) : look (L.map fun r => (f r.1, g r.2)) (f k) = (look L k).map g := by
  induction L with
  | nil => rfl
  | cons r L ih =>
    by_cases e : r.1 = k
    · subst e
      rw [look_hit, List.map_cons]
      exact look_hit (r := (f r.1, g r.2))
    · rw [look_miss e, List.map_cons, look_miss (r := (f r.1, g r.2)) (fun z => e (hf _ _ z)), ih]
theorem look_at {κ β : Type} [DecidableEq κ] {L : List (κ × β)} {i : Nat} {r : κ × β} (h : L[i]? = some r) (hb : ∀ (j : Nat) q, j < i → L[j]? = some q → q.1 ≠ r.1) : look L r.1 = some r.2 := by
  induction L generalizing i with
  | nil => simp at h
  | cons q L ih =>
    cases i with
    | zero =>
      have h : q = r := by simpa using h
      subst h
      exact look_hit
    | succ i =>
      rw [look_miss (hb 0 q (Nat.succ_pos _) rfl)]
      exact ih (i := i) (by simpa using h) fun j q hj hq => hb (j + 1) q (Nat.succ_lt_succ hj) (by simpa using hq)
def lexN : List Nat → List Nat → Bool
  | [], [] => false
  | [], _ :: _ => true
  | _ :: _, [] => false
  | x :: xs, y :: ys => if x = y then lexN xs ys else decide (x < y)
theorem lexN_irr : ∀ k : List Nat, lexN k k = false
  | [] => rfl
  | x :: xs => by
    show (if x = x then _ else _) = false
    rw [if_pos rfl]; exact lexN_irr xs
theorem lexN_ne {a b : List Nat} (h : lexN a b = true) : a ≠ b := fun e => by rw [e, lexN_irr] at h; cases h
theorem lexN_trans : ∀ {a b c : List Nat}, lexN a b = true → lexN b c = true → lexN a c = true
  | [], [], _, h, _ => by cases h
  | [], _ :: _, [], _, h => by cases h
  | [], _ :: _, _ :: _, _, _ => rfl
  | _ :: _, [], _, h, _ => by cases h
  | _ :: _, _ :: _, [], _, h => by cases h
  | x :: xs, y :: ys, z :: zs, h1, h2 => by
    have h1 : (if x = y then lexN xs ys else decide (x < y)) = true := h1
    have h2 : (if y = z then lexN ys zs else decide (y < z)) = true := h2
    show (if x = z then lexN xs zs else decide (x < z)) = true
    by_cases e1 : x = y
    · rw [if_pos e1] at h1
      by_cases e2 : y = z
      · rw [if_pos e2] at h2
        rw [if_pos (e1.trans e2)]; exact lexN_trans h1 h2
      · rw [if_neg e2] at h2
        rw [if_neg (fun e => e2 (e1.symm.trans e)), e1]; exact h2
    · rw [if_neg e1] at h1
      have l1 := of_decide_eq_true h1
      by_cases e2 : y = z
      · rw [if_neg (fun e => e1 (e.trans e2.symm)), ← e2]; exact h1
      · rw [if_neg e2] at h2
        have l2 := of_decide_eq_true h2
        rw [if_neg (by omega)]
        exact decide_eq_true (by omega)
theorem lexN_total : ∀ {a b : List Nat}, a ≠ b → lexN a b = true ∨ lexN b a = true
  | [], [], h => absurd rfl h
  | [], _ :: _, _ => .inl rfl
  | _ :: _, [], _ => .inr rfl
  | x :: xs, y :: ys, h => by
    show (if x = y then lexN xs ys else decide (x < y)) = true ∨ (if y = x then lexN ys xs else decide (y < x)) = true
    by_cases e : x = y
    · rw [if_pos e, if_pos e.symm]
      exact lexN_total fun z => h (by rw [e, z])
    · rw [if_neg e, if_neg (Ne.symm e)]
      rcases Nat.lt_trichotomy x y with l | l | l
      · exact .inl (decide_eq_true l)
      · exact absurd l e
      · exact .inr (decide_eq_true l)
theorem lexS_map : ∀ a b : List Nat, lexS (a.map sg1) (b.map sg1) = lexN a b
  | [], [] => rfl
  | [], _ :: _ => rfl
  | _ :: _, [] => rfl
  | x :: xs, y :: ys => by
    show (if sg1 x = sg1 y then lexS (xs.map sg1) (ys.map sg1) else decide ((sg1 x).cps.toList < (sg1 y).cps.toList)) = if x = y then lexN xs ys else decide (x < y)
    have e1 : sg1 x = sg1 y ↔ x = y := ⟨fun z => by have := congrArg (fun t : Str => t.cps.toList) z; exact (List.cons.inj this).1, fun z => by rw [z]⟩
    by_cases e : x = y
    · rw [if_pos (e1.mpr e), if_pos e, lexS_map xs ys]
    · rw [if_neg (fun z => e (e1.mp z)), if_neg e]
      refine decide_eq_decide.mpr ?_
      show [x] < [y] ↔ x < y
      rw [List.cons_lt_cons_iff]
      constructor
      · rintro (h | ⟨_, h⟩)
        · exact h
        · exact absurd h (List.lt_irrefl _)
      · exact fun h => .inl h
/-- rows by strictly ascending keys -/
def Asc {β : Type} (L : List (List Nat × β)) : Prop := L.Pairwise fun p q => lexN p.1 q.1 = true
theorem Asc.lt {β : Type} {L : List (List Nat × β)} (h : Asc L) {i j : Nat} {p q : List Nat × β} (hp : L[i]? = some p) (hq : L[j]? = some q) (hij : i < j) : lexN p.1 q.1 = true := by
  obtain ⟨p1, e1⟩ := List.getElem?_eq_some_iff.mp hp
  obtain ⟨p2, e2⟩ := List.getElem?_eq_some_iff.mp hq
  have := List.pairwise_iff_getElem.mp h i j p1 p2 hij
  rw [e1, e2] at this
  exact this
structure Sty where
  m : Int
  dp : Int
  cl : Int
  W : List (Nat × Nat)
  C : List ((Nat × Nat) × Nat)
  B : List ((Nat × Nat) × Nat)
def natV (w : Nat) : V := .int (w : Int)
def rowsW (W : List (Nat × Nat)) : List (List Nat × V) := W.map fun r => ([r.1], natV r.2)
def rows2 (C : List ((Nat × Nat) × Nat)) : List (List Nat × V) := C.map fun r => ([r.1.1, r.1.2], natV r.2)
def wOf (W : List (Nat × Nat)) (c : Nat) : Nat := (look W c).getD 1
def cutOf (C : List ((Nat × Nat) × Nat)) (a b : Nat) : Nat := (look C (a, b)).getD 0
structure StyOk (S : Sty) : Prop where
  sw : Asc (rowsW S.W)
  sc : Asc (rows2 S.C)
  sb : Asc (rows2 S.B)
  lw : S.W.length ≤ 100
  lc : S.C.length ≤ 100
  lb : S.B.length ≤ 100
  w3 : ∀ r ∈ S.W, 1 ≤ r.2 ∧ r.2 ≤ 3
  uw : ∀ r ∈ rowsW S.W, ∀ c ∈ r.1, c < 1114112
  uc : ∀ r ∈ rows2 S.C, ∀ c ∈ r.1, c < 1114112
  ub : ∀ r ∈ rows2 S.B, ∀ c ∈ r.1, c < 1114112
  cw : ∀ r ∈ S.C, r.2 < wOf S.W r.1.1
theorem look_rowsW (W : List (Nat × Nat)) (c : Nat) : look (rowsW W) [c] = (look W c).map natV :=
  look_map (f := fun c : Nat => [c]) (g := natV) (fun a b e => (List.cons.inj e).1) W c
theorem look_rows2 (C : List ((Nat × Nat) × Nat)) (a b : Nat) : look (rows2 C) [a, b] = (look C (a, b)).map natV :=
  look_map (f := fun k : Nat × Nat => [k.1, k.2]) (g := natV) (fun a b e => by
    have e1 := List.cons.inj e
    have e2 := List.cons.inj e1.2
    exact Prod.ext e1.1 e2.1) C (a, b)
theorem wOf_bd {S : Sty} (h : StyOk S) (c : Nat) : 1 ≤ wOf S.W c ∧ wOf S.W c ≤ 3 := by
  unfold wOf
  cases e : look S.W c with
  | none => exact ⟨Nat.le_refl _, by decide⟩
  | some w => exact h.w3 _ (look_mem e)
theorem cut_lt {S : Sty} (h : StyOk S) (a b : Nat) : cutOf S.C a b < wOf S.W a := by
  unfold cutOf
  cases e : look S.C (a, b) with
  | none => exact (wOf_bd h a).1
  | some w => exact h.cw _ (look_mem e)
/-- the width of the sign at k in a piece that ends ahead of j -/
def wAt (S : Sty) (zs : List Nat) (j k : Nat) : Nat := if k + 1 < j then wOf S.W (zs.getD k 0) - cutOf S.C (zs.getD k 0) (zs.getD (k + 1) 0) else wOf S.W (zs.getD k 0)
theorem wAt_bd {S : Sty} (h : StyOk S) (zs : List Nat) (j k : Nat) : 1 ≤ wAt S zs j k ∧ wAt S zs j k ≤ 3 := by
  unfold wAt
  have a := wOf_bd h (zs.getD k 0)
  have b := cut_lt h (zs.getD k 0) (zs.getD (k + 1) 0)
  by_cases c : k + 1 < j
  · rw [if_pos c]; omega
  · rw [if_neg c]; exact a
def pieceW (S : Sty) (zs : List Nat) (i j : Nat) : Nat := ((List.range' i (j - i)).map (wAt S zs j)).sum + if j < zs.length then 1 else 0
def pieceN (S : Sty) (zs : List Nat) (i j : Nat) : List Nat := (List.range' i (j - i)).flatMap (fun k => zs.getD k 0 :: List.replicate (wAt S zs j k - 1) 95) ++ if j < zs.length then [45] else []
theorem pieceN_len {S : Sty} (h : StyOk S) (zs : List Nat) (i j : Nat) : (pieceN S zs i j).length = pieceW S zs i j := by
  unfold pieceN pieceW
  rw [List.length_append]
  congr 1
  · induction (List.range' i (j - i)) with
    | nil => rfl
    | cons k r ih =>
      rw [List.flatMap_cons, List.length_append, ih, List.map_cons, List.sum_cons, List.length_cons, List.length_replicate]
      have := (wAt_bd h zs j k).1
      omega
  · by_cases c : j < zs.length
    · rw [if_pos c, if_pos c]; rfl
    · rw [if_neg c, if_neg c]; rfl
/-- what stands ahead of a place, as parts of a longer piece -/
def ahead (S : Sty) (zs : List Nat) : Nat → Int
  | 0 => 0
  | t + 1 => ahead S zs t + ((wOf S.W (zs.getD t 0) : Int) - (cutOf S.C (zs.getD t 0) (zs.getD (t + 1) 0) : Int))
theorem inner_sum {S : Sty} (h : StyOk S) (zs : List Nat) (i j : Nat) : ∀ n, i + n < j → ((((List.range' i n).map (wAt S zs j)).sum : Nat) : Int) = ahead S zs (i + n) - ahead S zs i
  | 0, _ => by rw [Nat.add_zero]; show (0 : Int) = _; omega
  | n + 1, hn => by
    have ih := inner_sum h zs i j n (by omega)
    rw [List.range'_1_concat, List.map_append, List.sum_append]
    have e : (wAt S zs j (i + n) : Int) = (wOf S.W (zs.getD (i + n) 0) : Int) - (cutOf S.C (zs.getD (i + n) 0) (zs.getD (i + n + 1) 0) : Int) := by
      unfold wAt
      rw [if_pos (by omega)]
      have := cut_lt h (zs.getD (i + n) 0) (zs.getD (i + n + 1) 0)
      omega
    have e2 : ahead S zs (i + (n + 1)) = ahead S zs (i + n) + ((wOf S.W (zs.getD (i + n) 0) : Int) - (cutOf S.C (zs.getD (i + n) 0) (zs.getD (i + n + 1) 0) : Int)) := rfl
    rw [e2, ← e]
    have e3 : (List.map (wAt S zs j) [i + n]).sum = wAt S zs j (i + n) := by simp
    rw [e3, Int.natCast_add, ih]
    omega
theorem pieceW_eq {S : Sty} (h : StyOk S) (zs : List Nat) {i j : Nat} (hij : i < j) : ((pieceW S zs i j : Nat) : Int) = ahead S zs (j - 1) - ahead S zs i + (wOf S.W (zs.getD (j - 1) 0) : Int) + (if j < zs.length then 1 else 0) := by
  unfold pieceW
  have e : j - i = (j - 1 - i) + 1 := by omega
  rw [e, List.range'_1_concat, List.map_append, List.sum_append]
  have e0 : i + (j - 1 - i) = j - 1 := by omega
  rw [e0]
  have e3 : (List.map (wAt S zs j) [j - 1]).sum = wAt S zs j (j - 1) := by simp
  have e4 : wAt S zs j (j - 1) = wOf S.W (zs.getD (j - 1) 0) := by
    unfold wAt; rw [if_neg (by omega)]
  have ih := inner_sum h zs i j (j - 1 - i) (by omega)
  rw [e0] at ih
  rw [e3, e4, Int.natCast_add, Int.natCast_add, ih]
  by_cases c : j < zs.length
  · rw [if_pos c, if_pos c]; rfl
  · rw [if_neg c, if_neg c]; rfl
/-- a piece between two partings, from both pieces beside and the whole -/
theorem pieceW_mid {S : Sty} (h : StyOk S) {zs : List Nat} {i j : Nat} (hij : i < j) (hj : j < zs.length) (hi : 0 < i) :
    ((pieceW S zs i zs.length : Nat) : Int) + ((pieceW S zs 0 j : Nat) : Int) - ((pieceW S zs 0 zs.length : Nat) : Int) = ((pieceW S zs i j : Nat) : Int) := by
  rw [pieceW_eq h zs (show i < zs.length by omega), pieceW_eq h zs (show 0 < j by omega), pieceW_eq h zs (show 0 < zs.length by omega), pieceW_eq h zs hij, if_neg (Nat.lt_irrefl _), if_pos hj]
  show _ + (_ - (0 : Int) + _ + _) - (_ - (0 : Int) + _ + _) = _
  omega
/-- the places at which a word can be parted, with their prices -/
def places (S : Sty) (zs : List Nat) : List (Nat × Nat) := (List.range' 2 (zs.length - 3)).filterMap fun k => (look S.B (zs.getD (k - 1) 0, zs.getD k 0)).map fun p => (k, p)
theorem places_bd {S : Sty} {zs : List Nat} {r : Nat × Nat} (h : r ∈ places S zs) : 2 ≤ r.1 ∧ r.1 + 1 < zs.length := by
  obtain ⟨k, hk, e⟩ := List.mem_filterMap.mp h
  rw [List.mem_range'_1] at hk
  cases el : look S.B (zs.getD (k - 1) 0, zs.getD k 0) with
  | none => rw [el] at e; cases e
  | some p =>
    rw [el] at e
    have e : (k, p) = r := Option.some.inj e
    subst e
    show 2 ≤ k ∧ k + 1 < zs.length
    omega
theorem places_asc (S : Sty) (zs : List Nat) : (places S zs).Pairwise fun p q => p.1 < q.1 := by
  unfold places
  refine List.Pairwise.filterMap _ ?_ (List.pairwise_lt_range' ..)
  intro a b hab p hp q hq
  cases ea : look S.B (zs.getD (a - 1) 0, zs.getD a 0) with
  | none => rw [ea] at hp; cases hp
  | some x =>
    cases eb : look S.B (zs.getD (b - 1) 0, zs.getD b 0) with
    | none => rw [eb] at hq; cases hq
    | some y =>
      rw [ea] at hp
      rw [eb] at hq
      have hp : (a, x) = p := Option.some.inj hp
      have hq : (b, y) = q := Option.some.inj hq
      subst hp hq
      exact hab
end Vf

set_option Elab.async false
set_option linter.all false
set_option maxRecDepth 100000
set_option maxHeartbeats 4000000
namespace Vf
open PySem PySem.Spec PyProof.Rows L2 TL
/-! ### styles as they stand; the program -/
def rowV (r : List Nat × V) : List V := r.1.map sgn ++ [r.2]
def RowsV (H : Hp) (v : V) (L : List (List Nat × V)) : Prop := ∃ (a : Addr) (vs : List V), v = .ref a ∧ H a = some (.tup vs) ∧ vs.length = L.length ∧ ∀ (i : Nat) (r : List Nat × V), L[i]? = some r → ∃ b : Addr, vs[i]? = some (.ref b) ∧ H b = some (.tup (rowV r))
def StyV (H : Hp) (v : V) (S : Sty) : Prop := ∃ (a : Addr) (wv cv bv pv : V), v = .ref a ∧ H a = some (.tup [.int S.m, .int S.dp, .int S.cl, wv, cv, bv, pv]) ∧ RowsV H wv (rowsW S.W) ∧ RowsV H cv (rows2 S.C) ∧ RowsV H bv (rows2 S.B)
theorem RowsV.mono {H H' : Hp} {v : V} {L : List (List Nat × V)} (h : RowsV H v L) (k : ∀ a xs, H a = some (.tup xs) → H' a = some (.tup xs)) : RowsV H' v L := by
  obtain ⟨a, vs, e, q, l, r⟩ := h
  exact ⟨a, vs, e, k _ _ q, l, fun i x hx => by
    obtain ⟨b, e1, q1⟩ := r i x hx
    exact ⟨b, e1, k _ _ q1⟩⟩
theorem StyV.mono {H H' : Hp} {v : V} {S : Sty} (h : StyV H v S) (k : ∀ a xs, H a = some (.tup xs) → H' a = some (.tup xs)) : StyV H' v S := by
  obtain ⟨a, wv, cv, bv, pv, e, q, h1, h2, h3⟩ := h
  exact ⟨a, wv, cv, bv, pv, e, k _ _ q, h1.mono k, h2.mono k, h3.mono k⟩
theorem same_tup {H H' : Hp} (h : Same H H') : ∀ a xs, H a = some (.tup xs) → H' a = some (.tup xs) := fun a xs e => h _ _ e
theorem DI.neT {d l a : Addr} {H : Hp} {xs : List V} (h : DI d l H) (e : H a = some (.tup xs)) : a ≠ d := by
  obtain ⟨_, _, i, b, s, c, _, h2⟩ := h
  intro z
  rw [z, h2] at e
  cases e
theorem kp_tup {d l : Addr} {H H' : Hp} (hD : DI d l H) (h : Kp d H H') : ∀ a xs, H a = some (.tup xs) → H' a = some (.tup xs) := fun a xs e => h _ _ (hD.neT e) e
theorem cut_last (l : List V) (x : V) : cutV (l ++ [x]) none (some (-1)) = l := by
  unfold cutV
  rw [HT.sIx_none]
  have e : HT.sIx (l ++ [x]).length (l ++ [x]).length (some (-1)) = l.length := by
    have e0 : ∀ n d : Nat, HT.sIx n d (some (-1)) = ((-1 : Int) + (n : Int)).toNat := fun n d => by
      unfold HT.sIx
      simp
    rw [e0, List.length_append]
    show ((-1 : Int) + ((l.length + 1 : Nat) : Int)).toNat = _
    omega
  rw [e, List.drop_zero, Nat.sub_zero, List.take_append_of_le_length (Nat.le_refl _), List.take_length]
theorem cut_part (l : List V) (x : V) : ¬ (HT.sIx (l ++ [x]).length 0 none = 0 ∧ HT.sIx (l ++ [x]).length (l ++ [x]).length (some (-1)) = (l ++ [x]).length) := by
  intro h
  have e : HT.sIx (l ++ [x]).length (l ++ [x]).length (some (-1)) = l.length := by
    have e0 : ∀ n d : Nat, HT.sIx n d (some (-1)) = ((-1 : Int) + (n : Int)).toNat := fun n d => by
      unfold HT.sIx
      simp
    rw [e0, List.length_append]
    show ((-1 : Int) + ((l.length + 1 : Nat) : Int)).toNat = _
    omega
  have h2 := h.2
  rw [e, List.length_append] at h2
  have h2 : l.length = l.length + 1 := h2
  omega
theorem sgn_str (k : List Nat) : k.map sgn = (k.map sg1).map V.str := by rw [List.map_map]; rfl
def dat (k : List Nat) : PyData := .tuple (k.map fun c => .str (sg1 c))
theorem eqvAll_key : ∀ a b : List Nat, PyData.eqvAll (a.map fun c => PyData.str (sg1 c)) (b.map fun c => .str (sg1 c)) = decide (a = b)
  | [], [] => by simp [PyData.eqvAll]
  | [], _ :: _ => by simp [PyData.eqvAll]
  | _ :: _, [] => by simp [PyData.eqvAll]
  | x :: xs, y :: ys => by
    have e1 : sg1 x = sg1 y ↔ x = y := ⟨fun z => by have := congrArg (fun t : Str => t.cps.toList) z; exact (List.cons.inj this).1, fun z => by rw [z]⟩
    simp only [List.map_cons, PyData.eqvAll, PyData.eqv]
    rw [eqvAll_key xs ys]
    by_cases e : x = y
    · subst e
      simp
    · have : (sg1 x == sg1 y) = false := beq_eq_false_iff_ne.mpr fun z => e (e1.mp z)
      rw [this]
      simp [e]
theorem eqv_key (a b : List Nat) : PyData.eqv (dat a) (dat b) = decide (a = b) := by
  show PyData.eqv (.tuple _) (.tuple _) = _
  simp only [PyData.eqv]
  exact eqvAll_key a b
theorem key_lay : ∀ {k : List Nat}, (∀ c ∈ k, c < 1114112) → PyData.canLayAll0 (k.map fun c => PyData.str (sg1 c)) = true
  | [], _ => rfl
  | c :: k, h => by
    show (PyData.strOk (sg1 c) && PyData.canLayAll0 (k.map fun c => PyData.str (sg1 c))) = true
    have e : PyData.strOk (sg1 c) = true := by
      unfold PyData.strOk sg1
      rw [List.all_toArray]
      exact List.all_eq_true.mpr fun x hx => decide_eq_true (by rw [List.mem_singleton.mp hx]; exact h c List.mem_cons_self)
    rw [e, key_lay fun z hz => h z (List.mem_cons_of_mem _ hz)]
    rfl
theorem key_depth : ∀ k : List Nat, PyData.depthAll (k.map fun c => PyData.str (sg1 c)) = 0
  | [] => rfl
  | c :: k => by
    show max 0 (PyData.depthAll (k.map fun c => PyData.str (sg1 c))) = 0
    rw [key_depth k]
    rfl
theorem shaped_key {k : List Nat} (h : ∀ c ∈ k, c < 1114112) : SeqAt.shaped (dat k) = true := by
  have h2 : PyData.depth (dat k) ≤ 64 := by
    show PyData.depthAll (k.map fun c => PyData.str (sg1 c)) + 1 ≤ 64
    rw [key_depth]
    decide
  show (PyData.canLay0 (dat k) && decide (PyData.depth (dat k) ≤ 64)) = true
  rw [Bool.and_eq_true]
  exact ⟨by unfold dat; simp only [PyData.canLay0]; exact key_lay h, decide_eq_true h2⟩
theorem dp_key {K : PySem.W.Frag} {H : Hp} {a : Addr} {k : List Nat} (e : H a = some (.tup (k.map sgn))) : Dp K H (.ref a) (dat k) := by
  refine .tup (SqT.of e) ?_
  clear e
  induction k with
  | nil => exact .nil
  | cons c r ih => exact .cons (.str (sg1 c)) ih
theorem hu0 {k : Nat} {A : Around} (r : Room k A) : A.units < cLine := by have := r.units; omega
theorem hu1 {k : Nat} {A : Around} (r : Room k A) : A.units + 1 < cLine := by have := r.units; omega
section
variable {P : Program} {w : World} {K : PySem.W.Frag} {mg : Str → Option Value} {base : Heap}
def spTold : Sp := fun vs H Q _ => ∃ (v o : V) (kb : Addr) (L : List (List Nat × V)) (key : List Nat), vs = [v, .ref kb, o] ∧ RowsV H v L ∧ Asc L ∧ L.length ≤ 1000 ∧ (∀ r ∈ L, ∀ c ∈ r.1, c < 1114112) ∧ (∀ c ∈ key, c < 1114112) ∧ H kb = some (.tup (key.map sgn)) ∧
  ∀ H', Same H H' → Q ((look L key).getD o) H'
end
end Vf

set_option Elab.async false
set_option linter.all false
set_option maxRecDepth 100000
set_option maxHeartbeats 4000000
namespace Vf
open PySem PySem.Spec PyProof.Rows L2 TL
def prV : Option Nat → V
  | none => .non
  | some p => natV p
theorem look_w (W : List (Nat × Nat)) (c : Nat) : (look (rowsW W) [c]).getD (.int 1) = natV (wOf W c) := by
  rw [look_rowsW]
  unfold wOf
  cases look W c <;> rfl
theorem look_c (C : List ((Nat × Nat) × Nat)) (a b : Nat) : (look (rows2 C) [a, b]).getD (.int 0) = natV (cutOf C a b) := by
  rw [look_rows2]
  unfold cutOf
  cases look C (a, b) <;> rfl
theorem look_b (C : List ((Nat × Nat) × Nat)) (a b : Nat) : (look (rows2 C) [a, b]).getD .non = prV (look C (a, b)) := by
  rw [look_rows2]
  cases look C (a, b) <;> rfl
theorem len_rW (W : List (Nat × Nat)) : (rowsW W).length = W.length := List.length_map ..
theorem len_r2 (W : List ((Nat × Nat) × Nat)) : (rows2 W).length = W.length := List.length_map ..
section
variable {P : Program} {w : World} {K : PySem.W.Frag} {mg : Str → Option Value} {base : Heap}
def spWidthOf : Sp := fun vs H Q _ => ∃ (v : V) (S : Sty) (c : Nat), vs = [v, sgn c] ∧ StyV H v S ∧ StyOk S ∧ c < 1114112 ∧ ∀ H', Same H H' → Q (natV (wOf S.W c)) H'
def spCutOf : Sp := fun vs H Q _ => ∃ (v : V) (S : Sty) (c d : Nat), vs = [v, sgn c, sgn d] ∧ StyV H v S ∧ StyOk S ∧ c < 1114112 ∧ d < 1114112 ∧ ∀ H', Same H H' → Q (natV (cutOf S.C c d)) H'
def spPriceOf : Sp := fun vs H Q _ => ∃ (v : V) (S : Sty) (c d : Nat), vs = [v, sgn c, sgn d] ∧ StyV H v S ∧ StyOk S ∧ c < 1114112 ∧ d < 1114112 ∧ ∀ H', Same H H' → Q (prV (look S.B (c, d))) H'
theorem bT {p : Prop} [Decidable p] (h : p) : V.bl (decide p) = V.bl true := by rw [decide_eq_true h]
theorem bF {p : Prop} [Decidable p] (h : ¬ p) : V.bl (decide p) = V.bl false := by rw [decide_eq_false h]
/-- a word -/
structure WdOk (zs : List Nat) : Prop where
  len : zs.length ≤ 16
  ok : ∀ c ∈ zs, c < 1114112
  nf : ∀ c ∈ zs, c ≠ 95
theorem WdOk.at {zs : List Nat} (h : WdOk zs) {k : Nat} (hk : k < zs.length) : (mkS zs).cps.toList[k]? = some (zs.getD k 0) ∧ zs.getD k 0 < 1114112 := by
  have e : zs[k]? = some (zs.getD k 0) := by rw [List.getD_eq_getElem?_getD, List.getElem?_eq_getElem hk]; rfl
  exact ⟨by rw [mkS_cps]; exact e, h.ok _ (List.mem_of_getElem? e)⟩
def spWidthAt : Sp := fun vs H Q _ => ∃ (v : V) (S : Sty) (zs : List Nat) (k j : Nat), vs = [v, sV zs, .int (k : Int), .int (j : Int)] ∧ StyV H v S ∧ StyOk S ∧ WdOk zs ∧ k < j ∧ j ≤ zs.length ∧ ∀ H', Same H H' → Q (natV (wAt S zs j k)) H'
def spPieceW : Sp := fun vs H Q _ => ∃ (v : V) (S : Sty) (zs : List Nat) (i j : Nat), vs = [v, sV zs, .int (i : Int), .int (j : Int)] ∧ StyV H v S ∧ StyOk S ∧ WdOk zs ∧ i ≤ j ∧ j ≤ zs.length ∧ ∀ H', Same H H' → Q (natV (pieceW S zs i j)) H'
end
end Vf

set_option Elab.async false
set_option linter.all false
set_option maxRecDepth 100000
set_option maxHeartbeats 4000000
namespace Vf
open PySem PySem.Spec PyProof.Rows L2 TL
/-! ### shapes -/
def RowAt (H : Hp) (S : Sty) (zs : List Nat) (x : V) (r : Nat × Nat) : Prop := ∃ b, x = .ref b ∧ H b = some (.tup [natV (pieceW S zs 0 r.1), natV (pieceW S zs r.1 zs.length), natV r.2])
def PartL (H : Hp) (S : Sty) (zs : List Nat) (vs : List V) (rs : List (Nat × Nat)) : Prop := vs.length = rs.length ∧ ∀ (i : Nat) (r : Nat × Nat), rs[i]? = some r → ∃ x, vs[i]? = some x ∧ RowAt H S zs x r
theorem PartL.same {H H' : Hp} {S : Sty} {zs : List Nat} {vs : List V} {rs : List (Nat × Nat)} (h : PartL H S zs vs rs) (k : ∀ a xs, H a = some (.tup xs) → H' a = some (.tup xs)) : PartL H' S zs vs rs := ⟨h.1, fun i r e => by
  obtain ⟨x, e1, b, e2, e3⟩ := h.2 i r e
  exact ⟨x, e1, b, e2, k _ _ e3⟩⟩
theorem PartL.snoc {H : Hp} {S : Sty} {zs : List Nat} {vs : List V} {rs : List (Nat × Nat)} {x : V} {r : Nat × Nat} (h : PartL H S zs vs rs) (hx : RowAt H S zs x r) : PartL H S zs (vs ++ [x]) (rs ++ [r]) := by
  refine ⟨by rw [List.length_append, List.length_append, h.1]; rfl, fun i q e => ?_⟩
  by_cases hi : i < rs.length
  · rw [List.getElem?_append_left hi] at e
    obtain ⟨y, e1, e2⟩ := h.2 i q e
    exact ⟨y, by rw [List.getElem?_append_left (by rw [h.1]; exact hi)]; exact e1, e2⟩
  · rw [List.getElem?_append_right (by omega)] at e
    have e0 : i - rs.length = 0 := by
      have := (List.getElem?_eq_some_iff.mp e).1
      simp at this
      exact this
    rw [e0] at e
    have e : r = q := Option.some.inj e
    subst e
    exact ⟨x, by rw [List.getElem?_append_right (by rw [h.1]; omega), h.1, e0]; rfl, hx⟩
def ShapeV (H : Hp) (v : V) (S : Sty) (zs : List Nat) : Prop := ∃ (a pa : Addr) (vs : List V), v = .ref a ∧ H a = some (.tup [natV (pieceW S zs 0 zs.length), .ref pa]) ∧ H pa = some (.tup vs) ∧ PartL H S zs vs (places S zs)
theorem ShapeV.mono {H H' : Hp} {v : V} {S : Sty} {zs : List Nat} (h : ShapeV H v S zs) (k : ∀ a xs, H a = some (.tup xs) → H' a = some (.tup xs)) : ShapeV H' v S zs := by
  obtain ⟨a, pa, vs, e, h1, h2, h3⟩ := h
  exact ⟨a, pa, vs, e, k _ _ h1, k _ _ h2, h3.same k⟩
def plN (S : Sty) (zs : List Nat) (n : Nat) : List (Nat × Nat) := (List.range' 2 n).filterMap fun k => (look S.B (zs.getD (k - 1) 0, zs.getD k 0)).map fun p => (k, p)
theorem plN_succ (S : Sty) (zs : List Nat) (n : Nat) : plN S zs (n + 1) = plN S zs n ++ ((look S.B (zs.getD (n + 1) 0, zs.getD (n + 2) 0)).map fun p => (n + 2, p)).toList := by
  unfold plN
  rw [List.range'_1_concat, List.filterMap_append]
  congr 1
  have e1 : 2 + n - 1 = n + 1 := by omega
  have e2 : 2 + n = n + 2 := by omega
  rw [e2]
  show List.filterMap _ [n + 2] = _
  cases h : look S.B (zs.getD (n + 1) 0, zs.getD (n + 2) 0) with
  | none => rw [List.filterMap_cons_none (by show Option.map _ (look S.B (zs.getD (n + 1) 0, zs.getD (n + 2) 0)) = none; rw [h]; rfl)]; rfl
  | some p => rw [List.filterMap_cons_some (b := (n + 2, p)) (by show Option.map _ (look S.B (zs.getD (n + 1) 0, zs.getD (n + 2) 0)) = _; rw [h]; rfl)]; rfl
def ends (S : Sty) (zs : List Nat) : List Nat := 0 :: ((places S zs).map (·.1) ++ [zs.length])
section
variable {P : Program} {w : World} {K : PySem.W.Frag} {mg : Str → Option Value} {base : Heap}
theorem places_look {S : Sty} {zs : List Nat} {r : Nat × Nat} (h : r ∈ places S zs) : look S.B (zs.getD (r.1 - 1) 0, zs.getD r.1 0) = some r.2 := by
  unfold places at h
  obtain ⟨k, hk, e⟩ := List.mem_filterMap.mp h
  cases hl : look S.B (zs.getD (k - 1) 0, zs.getD k 0) with
  | none => rw [hl] at e; cases e
  | some p =>
    rw [hl] at e
    have := Option.some.inj e
    subst this
    exact hl
theorem places_len (S : Sty) (zs : List Nat) : (places S zs).length ≤ zs.length := by
  unfold places
  have h1 := List.length_filterMap_le (fun k => (look S.B (zs.getD (k - 1) 0, zs.getD k 0)).map fun p => (k, p)) (List.range' 2 (zs.length - 3))
  rw [List.length_range'] at h1
  omega
theorem places_plN (S : Sty) (zs : List Nat) : places S zs = plN S zs (zs.length - 3) := rfl
def spPlacesOf : Sp := fun vs H Q _ => ∃ (v : V) (S : Sty) (zs : List Nat), vs = [v, sV zs] ∧ StyV H v S ∧ StyOk S ∧ WdOk zs ∧ ∀ H' D, Same H H' → H D = none → H' D = some (.lst ((places S zs).map fun r : Nat × Nat => natV r.1)) → Q (.ref D) H'
def spShapeOf : Sp := fun vs H Q _ => ∃ (v : V) (S : Sty) (zs : List Nat), vs = [v, sV zs] ∧ StyV H v S ∧ StyOk S ∧ WdOk zs ∧ ∀ u H', Same H H' → ShapeV H' u S zs → Q u H'
theorem ends_part {S : Sty} {zs : List Nat} {k : Nat} {r : Nat × Nat} (h : (places S zs)[k]? = some r) : (ends S zs)[k + 1]? = some r.1 := by
  show ((places S zs).map (·.1) ++ [zs.length])[k]? = _
  have hk := (List.getElem?_eq_some_iff.mp h).1
  rw [List.getElem?_append_left (by rw [List.length_map]; exact hk), List.getElem?_map, h]
  rfl
theorem ends_last (S : Sty) (zs : List Nat) : (ends S zs)[(places S zs).length + 1]? = some zs.length := by
  show ((places S zs).map (·.1) ++ [zs.length])[(places S zs).length]? = _
  rw [List.getElem?_append_right (by rw [List.length_map]; exact Nat.le_refl _), List.length_map, Nat.sub_self]
  rfl
theorem ends_len (S : Sty) (zs : List Nat) : (ends S zs).length = (places S zs).length + 2 := by
  unfold ends
  rw [List.length_cons, List.length_append, List.length_map]; rfl
def spPieceWidth : Sp := fun vs H Q _ => ∃ (u : V) (S : Sty) (zs : List Nat) (i j a b : Nat), vs = [u, .int (i : Int), .int ((if j = (places S zs).length + 1 then 0 else j : Nat) : Int)] ∧ ShapeV H u S zs ∧ StyOk S ∧ 0 < zs.length ∧ i < j ∧ (ends S zs)[i]? = some a ∧ (ends S zs)[j]? = some b ∧ ∀ H', Same H H' → Q (natV (pieceW S zs a b)) H'
theorem ok_piece_width (T : Txt K mg) : FnOk P w K mg base CX0 1 T.a_piece_width T.d_piece_width ["shape", "first", "last"] spPieceWidth := by
  refine T.D_piece_width.F.ok sc_piece_width (fun vs H Q E h => ?_) (fun cdv A outer s H vs Q E hr h => ?_)
  · obtain ⟨v, S, zs, i, j, a, b, rfl, _⟩ := h
    rfl
  · obtain ⟨v, S, zs, i, j, a, b, rfl, ⟨sa, pa, us, rfl, e1, e2, pl⟩, ok, h0, hij, ea, eb, q⟩ := h
    have lj : j ≤ (places S zs).length + 1 := by
      have := (List.getElem?_eq_some_iff.mp eb).1
      rw [ends_len] at this
      omega
    obtain ⟨J, eJ⟩ : ∃ J : Nat, J = if j = (places S zs).length + 1 then 0 else j := ⟨_, rfl⟩
    rw [← eJ]
    have at1 : ∀ k : Nat, 0 < k → k ≤ (places S zs).length → ∃ (r : Nat × Nat) (x : Addr), us[k - 1]? = some (.ref x) ∧ H x = some (.tup [natV (pieceW S zs 0 r.1), natV (pieceW S zs r.1 zs.length), natV r.2]) ∧ (ends S zs)[k]? = some r.1 ∧ r ∈ places S zs := by
      intro k h1 h2
      have g : (places S zs)[k - 1]? = some (places S zs)[k - 1] := List.getElem?_eq_getElem (by omega)
      obtain ⟨x, gx, y, rfl, ey⟩ := pl.2 _ _ g
      have := ends_part g
      rw [show k - 1 + 1 = k by omega] at this
      exact ⟨_, y, gx, ey, this, List.getElem_mem _⟩
    refine ⟨_, (pss_cons (ps_asg (pv 0) (pg_tup (by rfl) (pgs_cons (pg_name (i := 3) sc_piece_width.nd rfl (.inl rfl)) (pgs_cons (pg_name (i := 4) sc_piece_width.nd rfl (.inl rfl)) pgs_nil))))
      (pss_cons (ps_if (PW.pt (pw_and (pt_cmpR op_eq (pv 1) pe_int (nomark _)) (pw_and1 (pt_cmpR op_eq (pv 2) pe_int (nomark _))))) (pss_one (ps_ret (pv 3))) pss_nil)
      (pss_cons (ps_if (pt_cmpR op_eq (pv 1) pe_int (nomark _)) (pss_one (ps_ret (pe_ix ix_tup (pe_ix ix_tup (pv 4) (pe_op op_sub (pv 2) pe_int) (fun _ _ => rfl)) pe_int (fun _ _ => rfl)))) pss_nil)
      (pss_cons (ps_if (pt_cmpR op_eq (pv 2) pe_int (nomark _)) (pss_one (ps_ret (pe_ix ix_tup (pe_ix ix_tup (pv 4) (pe_op op_sub (pv 1) pe_int) (fun _ _ => rfl)) pe_int (fun _ _ => rfl)))) pss_nil)
      (pss_one (ps_ret (pe_op op_sub (pe_op op_add (pe_ix ix_tup (pe_ix ix_tup (pv 4) (pe_op op_sub (pv 1) pe_int) (fun _ _ => rfl)) pe_int (fun _ _ => rfl)) (pe_ix ix_tup (pe_ix ix_tup (pv 4) (pe_op op_sub (pv 2) pe_int) (fun _ _ => rfl)) pe_int (fun _ _ => rfl))) (pv 3)))))))), ?_⟩
    refine ⟨_, rfl, sa, _, rfl, SqT.of e1, rfl, _, _, rfl, _, _, rfl, rfl, ?_⟩
    have cA : ∀ k : Nat, 0 < k → (k : Int) - 1 = ((k - 1 : Nat) : Int) := fun k hk => by omega
    by_cases hi : i = 0
    · subst hi
      have : (0 : Nat) = a := Option.some.inj ea
      subst this
      by_cases hj : j = (places S zs).length + 1
      · rw [if_pos hj] at eJ
        subst eJ
        rw [hj, ends_last] at eb
        have : zs.length = b := Option.some.inj eb
        subst this
        exact ⟨_, rfl, rfl, true, bT rfl, _, rfl, rfl, true, bT rfl, _, rfl, q _ (Same.refl _)⟩
      · rw [if_neg hj] at eJ
        subst eJ
        obtain ⟨r, x, gx, ex, er, hr2⟩ := at1 J (by omega) (by omega)
        rw [er] at eb
        have : r.1 = b := Option.some.inj eb
        subst this
        have hJ : ¬ V.int (J : Int) = V.int 0 := fun z => by have := V.int.inj z; omega
        refine ⟨_, rfl, rfl, true, bT rfl, _, rfl, rfl, false, bF hJ, ?_⟩
        refine ⟨_, rfl, rfl, true, bT rfl, _, rfl, _, rfl, _, _, rfl, rfl, pa, us, _, .ref x, rfl, rfl, SqT.of e2, by rw [cA J (by omega)]; exact atI_nat gx, x, _, _, _, rfl, rfl, SqT.of ex, rfl, q _ (Same.refl _)⟩
    · have hI : ¬ V.int (i : Int) = V.int 0 := fun z => by have := V.int.inj z; omega
      obtain ⟨r, x, gx, ex, er, hr2⟩ := at1 i (by omega) (by omega)
      rw [er] at ea
      have : r.1 = a := Option.some.inj ea
      subst this
      refine ⟨_, rfl, rfl, false, bF hI, _, rfl, rfl, false, bF hI, ?_⟩
      by_cases hj : j = (places S zs).length + 1
      · rw [if_pos hj] at eJ
        subst eJ
        rw [hj, ends_last] at eb
        have : zs.length = b := Option.some.inj eb
        subst this
        refine ⟨_, rfl, rfl, true, bT rfl, _, rfl, _, rfl, _, _, rfl, rfl, pa, us, _, .ref x, rfl, rfl, SqT.of e2, by rw [cA i (by omega)]; exact atI_nat gx, x, _, _, _, rfl, rfl, SqT.of ex, rfl, q _ (Same.refl _)⟩
      · rw [if_neg hj] at eJ
        subst eJ
        have hJ : ¬ V.int (J : Int) = V.int 0 := fun z => by have := V.int.inj z; omega
        obtain ⟨r2, x2, gx2, ex2, er2, hr3⟩ := at1 J (by omega) (by omega)
        rw [er2] at eb
        have : r2.1 = b := Option.some.inj eb
        subst this
        refine ⟨_, rfl, rfl, false, bF hJ, ?_⟩
        refine ⟨_, rfl, _, rfl, _, _, rfl, rfl, pa, us, _, .ref x, rfl, rfl, SqT.of e2, by rw [cA i (by omega)]; exact atI_nat gx, x, _, _, _, rfl, rfl, SqT.of ex, rfl, ?_⟩
        refine ⟨_, rfl, _, rfl, _, _, rfl, rfl, pa, us, _, .ref x2, rfl, rfl, SqT.of e2, by rw [cA J (by omega)]; exact atI_nat gx2, x2, _, _, _, rfl, rfl, SqT.of ex2, rfl, _, _, rfl, rfl, _, rfl, _, _, rfl, rfl, ?_⟩
        have hlt : r.1 < r2.1 := by
          have g1 : (places S zs)[i - 1]? = some (places S zs)[i - 1] := List.getElem?_eq_getElem (by omega)
          have g2 : (places S zs)[J - 1]? = some (places S zs)[J - 1] := List.getElem?_eq_getElem (by omega)
          have e3 := ends_part g1
          have e4 := ends_part g2
          rw [show i - 1 + 1 = i by omega, er] at e3
          rw [show J - 1 + 1 = J by omega, er2] at e4
          rw [Option.some.inj e3, Option.some.inj e4]
          exact List.pairwise_iff_getElem.mp (places_asc S zs) _ _ (by omega) (by omega) (by omega)
        have b1 := places_bd hr2
        have b2 := places_bd hr3
        have em := pieceW_mid (zs := zs) ok hlt (by omega) (by omega)
        show Q (V.int ((pieceW S zs r.1 zs.length : Int) + (pieceW S zs 0 r2.1 : Int) - (pieceW S zs 0 zs.length : Int))) H
        rw [em]
        exact q _ (Same.refl _)
end
end Vf

set_option Elab.async false
set_option linter.all false
set_option maxRecDepth 100000
set_option maxHeartbeats 4000000
namespace Vf
open PySem PySem.Spec PyProof.Rows L2 TL
/-- what the list of a comprehension holds: texts -/
def PvS (R : List Nat → Prop) (d l : Addr) (H : Hp) (D : Addr) (i : Nat) (H' : Hp) : Prop :=
  ∃ zss : List (List Nat), zss.length = i ∧ (∀ zs ∈ zss, R zs) ∧ Kp d H H' ∧ DI d l H' ∧ H' D = some (.lst (zss.map sV))
theorem PvS.start {R : List Nat → Prop} {d l D : Addr} {H : Hp} (hD : DI d l H) (nD : H D = none) : PvS R d l H D 0 (upd H D (.lst [])) :=
  ⟨[], rfl, (fun _ h => nomatch h), (Kp.refl d H).new nD, hD.new nD, upd_same⟩
theorem PvS.dice {R : List Nat → Prop} {d l D : Addr} {H H1 : Hp} {i : Nat} (p : PvS R d l H D i H1) : DI d l H1 := by
  obtain ⟨_, _, _, _, h, _⟩ := p
  exact h
theorem PvS.step {R : List Nat → Prop} {d l D : Addr} {H H1 H2 : Hp} {i : Nat} {zs : List Nat} (hD : DI d l H) (nD : H D = none) (p : PvS R d l H D i H1) (hi : i < 100000) (K2 : Kp d H1 H2) (D2 : DI d l H2) (r : R zs) :
    ∃ acc, H2 D = some (.lst acc) ∧ acc.length < sizeLine ∧ PvS R d l H D (i + 1) (upd H2 D (.lst (acc ++ [sV zs]))) := by
  obtain ⟨zss, hl, hR, K1, D1, e1⟩ := p
  have n1 := hD.nd nD
  have e2 : H2 D = some (.lst (zss.map sV)) := K2 _ _ n1.1 e1
  refine ⟨_, e2, ?_, zss ++ [zs], ?_, ?_, (K1.trans K2).mut nD, D2.at n1.1 n1.2, ?_⟩
  · rw [List.length_map, hl]
    exact Nat.lt_of_lt_of_le hi (by decide)
  · rw [List.length_append, hl]; rfl
  · intro z hz
    rcases List.mem_append.mp hz with h | h
    · exact hR z h
    · rw [List.mem_singleton.mp h]; exact r
  · rw [upd_same, List.map_append]; rfl
section
variable {P : Program} {w : World} {K : PySem.W.Frag} {mg : Str → Option Value} {base : Heap}
/-! ### pick, rare -/
/-- what is picked from -/
def Row (K : PySem.W.Frag) (H : Hp) (d : Addr) (row : V) (xs : List V) : Prop :=
  (∃ a, row = .ref a ∧ a ≠ d ∧ SqL K H a xs) ∨ ∃ zs, row = sV zs ∧ xs = zs.map fun c => sV [c]
def spPick (K : PySem.W.Frag) : Sp := fun vs H Q _ => ∃ (d l : Addr) (row : V) (xs : List V), vs = [.ref d, row] ∧ DI d l H ∧ Row K H d row xs ∧ 0 < xs.length ∧ xs.length ≤ 1000 ∧
  ∀ H' v, Kp d H H' → DI d l H' → v ∈ xs → Q v H'
theorem at_draw {xs : List V} {r : Int} (h : 0 < xs.length) (h1 : (xs.length : Int) < 2 → r = 0) (h2 : 2 ≤ (xs.length : Int) → 0 ≤ r ∧ r < (xs.length : Int)) :
    ∃ (j : Nat) (hj : j < xs.length), r = (j : Int) := by
  by_cases h3 : 2 ≤ (xs.length : Int)
  · have ⟨a, b⟩ := h2 h3
    exact ⟨r.toNat, by omega, by omega⟩
  · exact ⟨0, h, by rw [h1 (by omega)]; rfl⟩
theorem ok_pick (T : Txt K mg) : FnOk P w K mg base CX0 2 T.a_law_pick T.d_law_pick ["_law_d", "_law_row"] (spPick K) := by
  have G_law_draw : FnOk P w K mg base CX0 1 T.a_law_draw T.d_law_draw ["_law_d", "_law_many"] spDraw := ok_draw T
  refine T.D_law_pick.F.ok sc_law_pick (fun vs H Q E h => ?_) (fun cdv A outer s H vs Q E hr h => ?_)
  · obtain ⟨d, l, row, xs, rfl, _⟩ := h
    rfl
  · obtain ⟨d, l, row, xs, rfl, hD, hR, h0, hx, q⟩ := h
    refine ⟨_, (pss_one (ps_ret (pe_ix ix_seq (pv 1) (pe_call G_law_draw (hr.mono (by decide)) (by rfl) T.D_law_draw.G T.D_law_draw.F.kp T.D_law_draw.B .nil pass0 (pa_cons (pv 0) (pa_cons (pe_callB call_len (by rfl) T.n_len PySem.boot_len (pa_cons (pv 1) pa_nil)) pa_nil))) (fun _ _ => rfl)))), ?_⟩
    have hlen : LenV K row H xs.length := by
      rcases hR with ⟨a, rfl, _, hS⟩ | ⟨zs, rfl, rfl⟩
      · exact .inl ⟨_, hS, rfl⟩
      · rw [List.length_map] at hx ⊢
        refine ⟨?_, (mkS_len zs).symm⟩
        rw [mkS_len]
        exact Nat.le_trans hx (by decide)
    refine ⟨_, rfl, _, rfl, _, rfl, _, _, rfl, hlen, d, l, _, rfl, hD, by omega, fun H' r k D' e1 e2 => ?_⟩
    obtain ⟨j, hj, rfl⟩ := at_draw h0 e1 e2
    rcases hR with ⟨a, rfl, nd, hS⟩ | ⟨zs, rfl, rfl⟩
    · exact .inl ⟨a, xs, _, xs[j], rfl, rfl, k.sq nd hS, atI_nat (List.getElem?_eq_getElem hj), q H' _ k D' (List.getElem_mem hj)⟩
    · have hj2 : j < zs.length := by rw [List.length_map] at hj; exact hj
      refine .inr (.inr ⟨mkS zs, _, zs[j], rfl, rfl, ?_, ?_, q H' _ k D' (List.mem_map.mpr ⟨zs[j], List.getElem_mem hj2, rfl⟩)⟩)
      · rw [mkS_len]; rw [List.length_map] at hx; exact Nat.le_trans hx (by decide)
      · rw [mkS_cps]; exact atI_nat (List.getElem?_eq_getElem hj2)
def spRare : Sp := fun vs H Q _ => ∃ (d l : Addr) (m : Int), vs = [.ref d, .int m] ∧ DI d l H ∧ m ≤ 1000000 ∧ ∀ H' b, Kp d H H' → DI d l H' → Q (.bl b) H'
theorem ok_rare (T : Txt K mg) : FnOk P w K mg base CX0 2 T.a_law_rare T.d_law_rare ["_law_d", "_law_many"] spRare := by
  have G_law_draw : FnOk P w K mg base CX0 1 T.a_law_draw T.d_law_draw ["_law_d", "_law_many"] spDraw := ok_draw T
  refine T.D_law_rare.F.ok sc_law_rare (fun vs H Q E h => ?_) (fun cdv A outer s H vs Q E hr h => ?_)
  · obtain ⟨d, l, m, rfl, _⟩ := h
    rfl
  · obtain ⟨d, l, m, rfl, hD, hm, q⟩ := h
    refine ⟨_, (pss_one (ps_ret (pe_cmpR op_eq (pe_call G_law_draw (hr.mono (by decide)) (by rfl) T.D_law_draw.G T.D_law_draw.F.kp T.D_law_draw.B .nil pass0 (pa_cons (pv 0) (pa_cons (pv 1) pa_nil))) (pe_op op_fdivN (pe_op op_mul (pv 1) pe_int) pe_int) (nomark _)))), ?_⟩
    refine ⟨_, rfl, _, rfl, d, l, m, rfl, hD, (by omega), fun H' r k D' e1 e2 => ?_⟩
    exact ⟨_, rfl, _, _, rfl, rfl, .inr ⟨by decide, by decide⟩, _, _, rfl, rfl, ⟨by decide, by decide⟩, rfl, q H' _ k D'⟩
/-! ### run, word -/
def spRun : Sp := fun vs H Q _ => ∃ (d l : Addr) (cs : List Nat) (n : Int), vs = [.ref d, sV cs, .int n] ∧ DI d l H ∧ 0 < cs.length ∧ cs.length ≤ 1000 ∧ 0 ≤ n ∧ n ≤ 1000 ∧
  ∀ H' zs, Kp d H H' → DI d l H' → (zs.length : Int) = n → (∀ c ∈ zs, c ∈ cs) → Q (sV zs) H'
/-- texts of one sign each -/
def One (cs zs : List Nat) : Prop := ∃ c, zs = [c] ∧ c ∈ cs
theorem one_flat {cs : List Nat} : ∀ {zss : List (List Nat)}, (∀ z ∈ zss, One cs z) → zss.flatten.length = zss.length ∧ ∀ c ∈ zss.flatten, c ∈ cs
  | [], _ => ⟨rfl, fun _ h => nomatch h⟩
  | z :: r, h => by
    obtain ⟨c, rfl, hc⟩ := h z List.mem_cons_self
    have ⟨a, b⟩ := one_flat (zss := r) fun y hy => h y (List.mem_cons_of_mem _ hy)
    rw [List.flatten_cons]
    refine ⟨by rw [List.length_append, a]; show 1 + r.length = r.length + 1; omega, fun x hx => ?_⟩
    rcases List.mem_append.mp hx with e | e
    · rw [List.mem_singleton.mp e]; exact hc
    · exact b x e
theorem pick_one {d l : Addr} {cs : List Nat} {H : Hp} {Q : VK} (hD : DI d l H) (h0 : 0 < cs.length) (hx : cs.length ≤ 1000) (q : ∀ H' zs, Kp d H H' → DI d l H' → One cs zs → Q (sV zs) H') : spPick K [.ref d, sV cs] H Q E0 := by
  refine ⟨d, l, _, _, rfl, hD, .inr ⟨cs, rfl, rfl⟩, by rw [List.length_map]; exact h0, by rw [List.length_map]; exact hx, fun H' v k D' hv => ?_⟩
  obtain ⟨c, hc, rfl⟩ := List.mem_map.mp hv
  exact q H' _ k D' ⟨c, rfl, hc⟩
def spWord : Sp := fun vs H Q _ => ∃ (d l : Addr) (lo hi : Int), vs = [.ref d, .int lo, .int hi] ∧ DI d l H ∧ 0 ≤ lo ∧ lo ≤ hi ∧ hi ≤ 900 ∧
  ∀ H' zs, Kp d H H' → DI d l H' → lo ≤ (zs.length : Int) → (zs.length : Int) ≤ hi → (∀ c ∈ zs, cW c = true) → Q (sV zs) H'
end
end Vf

set_option Elab.async false
set_option linter.all false
set_option maxRecDepth 100000
set_option maxHeartbeats 4000000
namespace Vf
open PySem PySem.Spec PyProof.Rows L2 TL
/-! ### rows of things, nets -/
def nV (w : Nat) : V := .int (w : Int)
def oV : Option Int → V
  | none => .non
  | some x => .int x
def oN (o : Option Nat) : V := oV (o.map fun x : Nat => (x : Int))
theorem oV_inj : ∀ {a b : Option Int}, oV a = oV b → a = b
  | none, none, _ => rfl
  | some _, some _, h => by rw [V.int.inj h]
  | none, some _, h => by cases h
  | some _, none, h => by cases h
theorem szN {n : Nat} (h : n < 100000) : n < sizeLine := Nat.lt_of_lt_of_le h (by decide)
theorem bTr {p : Prop} [Decidable p] (h : p) : V.bl (decide p) = V.bl true := by rw [decide_eq_true h]
theorem bFa {p : Prop} [Decidable p] (h : ¬ p) : V.bl (decide p) = V.bl false := by rw [decide_eq_false h]
theorem bNT {p : Prop} [Decidable p] (h : p) : V.bl (!decide p) = V.bl false := by rw [decide_eq_true h]; rfl
theorem bNF {p : Prop} [Decidable p] (h : ¬ p) : V.bl (!decide p) = V.bl true := by rw [decide_eq_false h]; rfl
/-- what stands in a list or tuple, thing by thing -/
def LV {α : Type} (R : V → α → Prop) (vs : List V) (rs : List α) : Prop := vs.length = rs.length ∧ ∀ (i : Nat) (r : α), rs[i]? = some r → ∃ x, vs[i]? = some x ∧ R x r
theorem LV.nil {α : Type} {R : V → α → Prop} : LV R [] [] := ⟨rfl, fun i r h => by cases i <;> cases h⟩
theorem LV.mono {α : Type} {R R' : V → α → Prop} {vs : List V} {rs : List α} (h : LV R vs rs) (k : ∀ x r, R x r → R' x r) : LV R' vs rs := ⟨h.1, fun i r e => by
  obtain ⟨x, e1, e2⟩ := h.2 i r e
  exact ⟨x, e1, k _ _ e2⟩⟩
theorem LV.snoc {α : Type} {R : V → α → Prop} {vs : List V} {rs : List α} {x : V} {r : α} (h : LV R vs rs) (hx : R x r) : LV R (vs ++ [x]) (rs ++ [r]) := by
  refine ⟨by rw [List.length_append, List.length_append, h.1]; rfl, fun i q e => ?_⟩
  by_cases hi : i < rs.length
  · rw [List.getElem?_append_left hi] at e
    obtain ⟨y, e1, e2⟩ := h.2 i q e
    exact ⟨y, by rw [List.getElem?_append_left (by rw [h.1]; exact hi)]; exact e1, e2⟩
  · rw [List.getElem?_append_right (by omega)] at e
    have e0 : i - rs.length = 0 := by
      have := (List.getElem?_eq_some_iff.mp e).1
      simp at this
      exact this
    rw [e0] at e
    have e : r = q := Option.some.inj e
    subst e
    exact ⟨x, by rw [List.getElem?_append_right (by rw [h.1]; omega), h.1, e0]; rfl, hx⟩
theorem LV.at {α : Type} {R : V → α → Prop} {vs : List V} {rs : List α} {i : Nat} {x : V} (h : LV R vs rs) (e : vs[i]? = some x) : ∃ r, rs[i]? = some r ∧ R x r := by
  have hi : i < rs.length := by rw [← h.1]; exact (List.getElem?_eq_some_iff.mp e).1
  obtain ⟨y, e1, e2⟩ := h.2 i _ (List.getElem?_eq_getElem hi)
  rw [e] at e1
  have := Option.some.inj e1
  subst this
  exact ⟨_, List.getElem?_eq_getElem hi, e2⟩
abbrev Arc := Nat × Nat × Nat
def ArcV (H : Hp) (x : V) (r : Arc) : Prop := ∃ b, x = .ref b ∧ H b = some (.tup [nV r.1, nV r.2.1, nV r.2.2])
theorem ArcV.mono {H H' : Hp} {x : V} {r : Arc} (h : ArcV H x r) (k : ∀ a xs, H a = some (.tup xs) → H' a = some (.tup xs)) : ArcV H' x r := by
  obtain ⟨b, e, f⟩ := h
  exact ⟨b, e, k _ _ f⟩
theorem kpTup {d l : Addr} {H H' : Hp} (D : DI d l H) (k : Kp d H H') : ∀ a xs, H a = some (.tup xs) → H' a = some (.tup xs) := fun a xs e => by
  obtain ⟨n, ⟨ns, h1⟩, i, b, s, c, h0, h2⟩ := D
  exact k _ _ (fun z => by rw [z, h2] at e; cases e) e
end Vf

set_option Elab.async false
set_option linter.all false
set_option maxRecDepth 100000
set_option maxHeartbeats 4000000
namespace Vf
open PySem PySem.Spec PyProof.Rows L2 TL
/-! ### least totals along arcs: f the bounds, g the tails, of the arcs Pr -/
structure Bd (Pr : Arc → Prop) (f g : Nat → Option Nat) : Prop where
  z : f 0 = some 0 ∧ g 0 = none
  s : ∀ v y, v ≠ 0 → f v = some y → ∃ u c x, g v = some u ∧ Pr (u, v, c) ∧ f u = some x ∧ y = x + c ∧ ∀ u' c' x', Pr (u', v, c') → f u' = some x' → y ≤ x' + c' ∧ (y = x' + c' → u ≤ u')
  n : ∀ v, v ≠ 0 → f v = none → g v = none ∧ ∀ u' c', Pr (u', v, c') → f u' = none
def fset (f : Nat → Option Nat) (h : Nat) (x : Nat) : Nat → Option Nat := fun j => if j = h then some x else f j
theorem fset_same {f : Nat → Option Nat} {h x : Nat} : fset f h x h = some x := if_pos rfl
theorem fset_ne {f : Nat → Option Nat} {h x j : Nat} (e : j ≠ h) : fset f h x j = f j := if_neg e
theorem Bd.start : Bd (fun _ => False) (fset (fun _ => none) 0 0) (fun _ => none) where
  z := ⟨fset_same, rfl⟩
  s := fun v y hv e => by rw [fset_ne hv] at e; cases e
  n := fun v hv e => ⟨rfl, fun _ _ h => h.elim⟩
theorem Bd.congr {P P' : Arc → Prop} {f g : Nat → Option Nat} (B : Bd P f g) (h : ∀ a, P' a ↔ P a) : Bd P' f g := by
  have : P' = P := funext fun a => propext (h a)
  rw [this]; exact B
theorem Bd.put {Pr : Arc → Prop} {f g : Nat → Option Nat} {t h c x : Nat} (B : Bd Pr f g) (hp : ∀ a, Pr a → a.1 ≤ t) (th : t < h) (ft : f t = some x) (lo : ∀ y, f h = some y → x + c < y) :
    Bd (fun a => Pr a ∨ a = (t, h, c)) (fset f h (x + c)) (fset g h t) where
  z := ⟨by rw [fset_ne (by omega)]; exact B.z.1, by rw [fset_ne (by omega)]; exact B.z.2⟩
  s := fun v y hv e => by
    by_cases hh : v = h
    · subst hh
      rw [fset_same] at e
      have e := Option.some.inj e
      refine ⟨t, c, x, fset_same, .inr rfl, by rw [fset_ne (by omega)]; exact ft, e.symm, fun u' c' x' hP e' => ?_⟩
      rcases hP with hP | hP
      · have hu := hp _ hP
        have hu : u' ≤ t := hu
        rw [fset_ne (by omega)] at e'
        cases q : f v with
        | none => rw [(B.n v hv q).2 u' c' hP] at e'; cases e'
        | some y0 =>
          obtain ⟨_, _, _, _, _, _, _, H⟩ := B.s v y0 hv q
          have := H u' c' x' hP e'
          have := lo y0 q
          omega
      · cases hP
        rw [fset_ne (by omega), ft] at e'
        have := Option.some.inj e'
        omega
    · rw [fset_ne hh] at e
      obtain ⟨u, c0, x0, h1, h2, h3, h4, H⟩ := B.s v y hv e
      have hu : u ≤ t := hp _ h2
      refine ⟨u, c0, x0, by rw [fset_ne hh]; exact h1, .inl h2, by rw [fset_ne (by omega)]; exact h3, h4, fun u' c' x' hP e' => ?_⟩
      rcases hP with hP | hP
      · have hu' : u' ≤ t := hp _ hP
        rw [fset_ne (by omega)] at e'
        exact H u' c' x' hP e'
      · cases hP
        exact absurd rfl hh
  n := fun v hv e => by
    by_cases hh : v = h
    · subst hh; rw [fset_same] at e; cases e
    · rw [fset_ne hh] at e
      obtain ⟨h1, h2⟩ := B.n v hv e
      refine ⟨by rw [fset_ne hh]; exact h1, fun u' c' hP => ?_⟩
      rcases hP with hP | hP
      · have hu' : u' ≤ t := hp _ hP
        rw [fset_ne (by omega)]
        exact h2 u' c' hP
      · cases hP
        exact absurd rfl hh
theorem Bd.skip {Pr : Arc → Prop} {f g : Nat → Option Nat} {t h c x y : Nat} (B : Bd Pr f g) (hp : ∀ a, Pr a → a.1 ≤ t) (th : t < h) (ft : f t = some x) (fh : f h = some y) (le : y ≤ x + c) :
    Bd (fun a => Pr a ∨ a = (t, h, c)) f g where
  z := B.z
  s := fun v y' hv e => by
    obtain ⟨u, c0, x0, h1, h2, h3, h4, H⟩ := B.s v y' hv e
    refine ⟨u, c0, x0, h1, .inl h2, h3, h4, fun u' c' x' hP e' => ?_⟩
    rcases hP with hP | hP
    · exact H u' c' x' hP e'
    · cases hP
      rw [ft] at e'
      rw [fh] at e
      have e1 := Option.some.inj e'
      have e2 := Option.some.inj e
      have hu : u ≤ t := hp _ h2
      exact ⟨by omega, fun _ => hu⟩
  n := fun v hv e => by
    obtain ⟨h1, h2⟩ := B.n v hv e
    refine ⟨h1, fun u' c' hP => ?_⟩
    rcases hP with hP | hP
    · exact h2 u' c' hP
    · cases hP
      rw [fh] at e; cases e
theorem Bd.none_ {Pr P2 : Arc → Prop} {f g : Nat → Option Nat} (B : Bd Pr f g) (h : ∀ a, P2 a → f a.1 = none) : Bd (fun a => Pr a ∨ P2 a) f g where
  z := B.z
  s := fun v y hv e => by
    obtain ⟨u, c0, x0, h1, h2, h3, h4, H⟩ := B.s v y hv e
    refine ⟨u, c0, x0, h1, .inl h2, h3, h4, fun u' c' x' hP e' => ?_⟩
    rcases hP with hP | hP
    · exact H u' c' x' hP e'
    · have := h _ hP
      have this : f u' = none := this
      rw [this] at e'; cases e'
  n := fun v hv e => by
    obtain ⟨h1, h2⟩ := B.n v hv e
    refine ⟨h1, fun u' c' hP => ?_⟩
    rcases hP with hP | hP
    · exact h2 u' c' hP
    · exact h _ hP
theorem Bd.le {Pr : Arc → Prop} {f g : Nat → Option Nat} (B : Bd Pr f g) {u v c x : Nat} (hP : Pr (u, v, c)) (e : f u = some x) : ∃ y, f v = some y ∧ y ≤ x + c := by
  by_cases hv : v = 0
  · subst hv; exact ⟨0, B.z.1, Nat.zero_le _⟩
  · cases q : f v with
    | none => rw [(B.n v hv q).2 u c hP] at e; cases e
    | some y =>
      obtain ⟨_, _, _, _, _, _, _, H⟩ := B.s v y hv q
      exact ⟨y, rfl, (H u c x hP e).1⟩
/-- the cost of the arc from u to v -/
def cst (as : List Arc) (u v : Nat) : Option Nat := (as.find? fun a => decide (a.1 = u ∧ a.2.1 = v)).map (·.2.2)
theorem cst_mem {as : List Arc} {u v c : Nat} (h : cst as u v = some c) : (u, v, c) ∈ as := by
  unfold cst at h
  cases q : as.find? (fun a => decide (a.1 = u ∧ a.2.1 = v)) with
  | none => rw [q] at h; cases h
  | some a =>
    rw [q] at h
    have h := Option.some.inj h
    have h1 := List.find?_some q
    have h1 := of_decide_eq_true h1
    have h2 := List.mem_of_find?_eq_some q
    obtain ⟨a1, a2, a3⟩ := a
    obtain ⟨rfl, rfl⟩ := h1
    have h : a3 = c := h
    rw [← h]; exact h2
def ArcLt (a b : Arc) : Prop := a.1 < b.1 ∨ a.1 = b.1 ∧ a.2.1 < b.2.1
theorem cst_of {as : List Arc} {u v c : Nat} (pw : as.Pairwise fun a b => a.1 < b.1 ∨ a.1 = b.1 ∧ a.2.1 < b.2.1) (h : (u, v, c) ∈ as) : cst as u v = some c := by
  cases q : cst as u v with
  | some c2 =>
    have h2 := cst_mem q
    obtain ⟨i, hi, ei⟩ := List.mem_iff_getElem.mp h
    obtain ⟨j, hj, ej⟩ := List.mem_iff_getElem.mp h2
    rcases Nat.lt_trichotomy i j with l | l | l
    · have := List.pairwise_iff_getElem.mp pw i j hi hj l
      rw [ei, ej] at this
      simp at this
    · subst l
      rw [ei] at ej
      cases ej; rfl
    · have := List.pairwise_iff_getElem.mp pw j i hj hi l
      rw [ei, ej] at this
      simp at this
  | none =>
    unfold cst at q
    have q2 : as.find? (fun a => decide (a.1 = u ∧ a.2.1 = v)) = none := by
      cases r : as.find? (fun a => decide (a.1 = u ∧ a.2.1 = v)) with
      | none => rfl
      | some a => rw [r] at q; cases q
    have := List.find?_eq_none.mp q2 _ h
    simp at this
theorem cst_take {as : List Arc} {i : Nat} {a : Arc} (pw : as.Pairwise fun a b => a.1 < b.1 ∨ a.1 = b.1 ∧ a.2.1 < b.2.1) (e : as[i]? = some a) (u v : Nat) :
    cst (as.take (i + 1)) u v = if u = a.1 ∧ v = a.2.1 then some a.2.2 else cst (as.take i) u v := by
  obtain ⟨hi, ei⟩ := List.getElem?_eq_some_iff.mp e
  have et : as.take (i + 1) = as.take i ++ [a] := by rw [List.take_succ, e]; rfl
  have pw2 := pw.sublist (List.take_sublist (i + 1) as)
  by_cases c : u = a.1 ∧ v = a.2.1
  · rw [if_pos c, c.1, c.2]
    refine cst_of pw2 ?_
    rw [et]
    exact List.mem_append_right _ (List.mem_singleton.mpr rfl)
  · rw [if_neg c, et]
    unfold cst
    rw [List.find?_append]
    have : [a].find? (fun a => decide (a.1 = u ∧ a.2.1 = v)) = none := by
      rw [List.find?_eq_none]
      intro x hx
      rw [List.mem_singleton.mp hx]
      intro z
      have z := of_decide_eq_true z
      exact c ⟨z.1.symm, z.2.symm⟩
    rw [this, Option.or_none]
def stepT (as : List Arc) (acc : Option Nat) (u v : Nat) : Option Nat := match acc with
  | none => none
  | some x => (cst as u v).map (x + ·)
def totK (as : List Arc) (ns : List Nat) : Nat → Option Nat
  | 0 => some 0
  | k + 1 => stepT as (totK as ns k) (ns.getD k 0) (ns.getD (k + 1) 0)
def tot (as : List Arc) (ns : List Nat) : Option Nat := totK as ns (ns.length - 1)
theorem stepT_some {as : List Arc} {acc : Option Nat} {u v t : Nat} (h : stepT as acc u v = some t) : ∃ x c, acc = some x ∧ (u, v, c) ∈ as ∧ t = x + c := by
  unfold stepT at h
  cases acc with
  | none => cases h
  | some x =>
    have h : (cst as u v).map (x + ·) = some t := h
    cases q : cst as u v with
    | none => rw [q] at h; cases h
    | some c =>
      rw [q] at h
      exact ⟨x, c, rfl, cst_mem q, (Option.some.inj h).symm⟩
theorem stepT_of {as : List Arc} {x u v c : Nat} (pw : as.Pairwise fun a b => a.1 < b.1 ∨ a.1 = b.1 ∧ a.2.1 < b.2.1) (h : (u, v, c) ∈ as) : stepT as (some x) u v = some (x + c) := by
  show (cst as u v).map (x + ·) = _
  rw [cst_of pw h]; rfl
theorem totK_low {as : List Arc} {f g : Nat → Option Nat} (B : Bd (· ∈ as) f g) {ns : List Nat} (h0 : ns.getD 0 0 = 0) : ∀ (k t : Nat), totK as ns k = some t → ∃ y, f (ns.getD k 0) = some y ∧ y ≤ t
  | 0, t, h => ⟨0, by rw [h0]; exact B.z.1, Nat.zero_le _⟩
  | k + 1, t, h => by
    obtain ⟨x, c, e, hm, rfl⟩ := stepT_some h
    obtain ⟨y0, e1, l1⟩ := totK_low B h0 k x e
    obtain ⟨y, e2, l2⟩ := B.le hm e1
    exact ⟨y, e2, by omega⟩
theorem totK_pre {as : List Arc} {ns ms : List Nat} : ∀ k, k < ns.length → totK as (ns ++ ms) k = totK as ns k
  | 0, _ => rfl
  | k + 1, h => by
    show stepT as (totK as (ns ++ ms) k) _ _ = stepT as (totK as ns k) _ _
    rw [totK_pre k (by omega)]
    have e : ∀ j, j < ns.length → (ns ++ ms).getD j 0 = ns.getD j 0 := fun j hj => by
      rw [List.getD_eq_getElem?_getD, List.getD_eq_getElem?_getD, List.getElem?_append_left hj]
    rw [e k (by omega), e (k + 1) h]
theorem tot_snoc {as : List Arc} {ns : List Nat} (u v : Nat) (hl : 0 < ns.length) (hu : ns.getD (ns.length - 1) 0 = u) : tot as (ns ++ [v]) = stepT as (tot as ns) u v := by
  unfold tot
  rw [List.length_append]
  show totK as (ns ++ [v]) (ns.length + 1 - 1) = _
  obtain ⟨m, hm⟩ : ∃ m, ns.length = m + 1 := ⟨ns.length - 1, by omega⟩
  rw [hm] at hu ⊢
  show stepT as (totK as (ns ++ [v]) m) _ _ = stepT as (totK as ns m) u v
  rw [totK_pre m (by omega)]
  have e1 : (ns ++ [v]).getD m 0 = u := by
    rw [List.getD_eq_getElem?_getD, List.getElem?_append_left (by omega), ← List.getD_eq_getElem?_getD]; exact hu
  have e2 : (ns ++ [v]).getD (m + 1) 0 = v := by
    rw [List.getD_eq_getElem?_getD, List.getElem?_append_right (by omega), hm]
    simp
  rw [e1, e2]
def mids (b : Nat → Bool) (n : Nat) : List Nat := (List.range n).filterMap fun k => if b k = true then some (k + 1) else none
theorem mids_succ (b : Nat → Bool) (n : Nat) : mids b (n + 1) = mids b n ++ if b n = true then [n + 1] else [] := by
  unfold mids
  rw [List.range_succ, List.filterMap_append]
  congr 1
  by_cases h : b n = true
  · rw [if_pos h]; simp [h]
  · rw [if_neg h]; simp [h]
theorem mids_congr {b b' : Nat → Bool} : ∀ n, (∀ k, k < n → b k = b' k) → mids b n = mids b' n
  | 0, _ => rfl
  | n + 1, h => by rw [mids_succ, mids_succ, mids_congr n (fun k hk => h k (by omega)), h n (by omega)]
theorem mids_len (b : Nat → Bool) : ∀ n, (mids b n).length ≤ n
  | 0 => Nat.le_refl _
  | n + 1 => by
    rw [mids_succ, List.length_append]
    have := mids_len b n
    split
    · show _ + 1 ≤ _; omega
    · show _ + 0 ≤ _; omega
def nodesOf (b : Nat → Bool) (v : Nat) : List Nat := 0 :: (mids b (v - 1) ++ [v])
theorem nodes_0 (b : Nat → Bool) (v : Nat) : (nodesOf b v).getD 0 0 = 0 := rfl
theorem nodes_len (b : Nat → Bool) (v : Nat) : (nodesOf b v).length = (mids b (v - 1)).length + 2 := by
  show (mids b (v - 1) ++ [v]).length + 1 = _
  rw [List.length_append]; rfl
theorem nodes_last (b : Nat → Bool) (v : Nat) : (nodesOf b v).getD ((nodesOf b v).length - 1) 0 = v := by
  rw [nodes_len]
  show (mids b (v - 1) ++ [v]).getD (mids b (v - 1)).length 0 = v
  rw [List.getD_eq_getElem?_getD, List.getElem?_append_right (Nat.le_refl _)]
  simp
/-- the way to v by the way to u -/
def byU (b : Nat → Bool) (u : Nat) : Nat → Bool := fun k => if k + 1 < u then b k else decide (k + 1 = u)
theorem mids_by (b : Nat → Bool) (u : Nat) (hu : u ≠ 0) : ∀ j, mids (byU b u) (u + j) = mids b (u - 1) ++ [u]
  | 0 => by
    obtain ⟨m, rfl⟩ : ∃ m, u = m + 1 := ⟨u - 1, by omega⟩
    rw [Nat.add_zero, mids_succ, if_pos (by unfold byU; rw [if_neg (by omega)]; exact decide_eq_true rfl), mids_congr m (b' := b) fun k hk => by unfold byU; rw [if_pos (by omega)]]
    rfl
  | j + 1 => by
    show mids (byU b u) (u + j + 1) = _
    rw [mids_succ, mids_by b u hu j, if_neg (by unfold byU; rw [if_neg (by omega)]; exact fun z => by have := of_decide_eq_true z; omega), List.append_nil]
theorem nodes_by (b : Nat → Bool) {u v : Nat} (hu : u ≠ 0) (h : u < v) : nodesOf (byU b u) v = nodesOf b u ++ [v] := by
  unfold nodesOf
  obtain ⟨j, rfl⟩ : ∃ j, v = u + j + 1 := ⟨v - u - 1, by omega⟩
  rw [show u + j + 1 - 1 = u + j by omega, mids_by b u hu]
  rfl
theorem mids_false : ∀ n, mids (fun _ => false) n = []
  | 0 => rfl
  | n + 1 => by rw [mids_succ, mids_false n]; rfl
theorem tot_two {as : List Arc} {v : Nat} : tot as [0, v] = stepT as (some 0) 0 v := rfl
theorem tot_best {as : List Arc} {f g : Nat → Option Nat} (B : Bd (· ∈ as) f g) (up : ∀ a ∈ as, a.1 < a.2.1) (pw : as.Pairwise fun a b => a.1 < b.1 ∨ a.1 = b.1 ∧ a.2.1 < b.2.1) :
    ∀ (n v : Nat), v ≤ n → v ≠ 0 → ∀ y, f v = some y → ∃ b, tot as (nodesOf b v) = some y
  | 0, v, h, hv, _, _ => absurd (Nat.le_zero.mp h) hv
  | n + 1, v, h, hv, y, e => by
    obtain ⟨u, c, x, h1, h2, h3, h4, _⟩ := B.s v y hv e
    have huv : u < v := up _ h2
    by_cases hu : u = 0
    · subst hu
      refine ⟨fun _ => false, ?_⟩
      unfold nodesOf
      rw [mids_false]
      show tot as [0, v] = _
      rw [tot_two, B.z.1] at *
      have := Option.some.inj h3
      rw [stepT_of pw h2, h4, this]
    · obtain ⟨b, hb⟩ := tot_best B up pw n u (by omega) hu x h3
      refine ⟨byU b u, ?_⟩
      rw [nodes_by b hu huv, tot_snoc u v (by rw [nodes_len]; omega) (nodes_last b u), hb, stepT_of pw h2, h4]
/-- masks -/
def maskOf : Nat → (Nat → Bool) → Nat
  | 0, _ => 0
  | n + 1, b => (if b 0 = true then 1 else 0) + 2 * maskOf n (fun k => b (k + 1))
theorem mask_lt : ∀ (n : Nat) (b : Nat → Bool), maskOf n b < 2 ^ n
  | 0, _ => Nat.one_pos
  | n + 1, b => by
    have := mask_lt n (fun k => b (k + 1))
    show (if b 0 = true then 1 else 0) + 2 * maskOf n (fun k => b (k + 1)) < _
    rw [Nat.pow_succ]
    split <;> omega
def bitOf (m k : Nat) : Bool := decide (m / 2 ^ k % 2 = 1)
theorem mask_bit : ∀ (n : Nat) (b : Nat → Bool) (k : Nat), k < n → bitOf (maskOf n b) k = b k
  | 0, _, _, h => absurd h (Nat.not_lt_zero _)
  | n + 1, b, 0, _ => by
    show decide (((if b 0 = true then 1 else 0) + 2 * maskOf n (fun k => b (k + 1))) / 2 ^ 0 % 2 = 1) = b 0
    rw [Nat.pow_zero, Nat.div_one]
    cases h : b 0 with
    | true => exact decide_eq_true (by rw [if_pos rfl]; omega)
    | false => exact decide_eq_false (by rw [if_neg (by simp)]; omega)
  | n + 1, b, k + 1, h => by
    have ih := mask_bit n (fun k => b (k + 1)) k (by omega)
    show decide (((if b 0 = true then 1 else 0) + 2 * maskOf n (fun k => b (k + 1))) / 2 ^ (k + 1) % 2 = 1) = b (k + 1)
    have e : ((if b 0 = true then 1 else 0) + 2 * maskOf n (fun k => b (k + 1))) / 2 ^ (k + 1) = maskOf n (fun k => b (k + 1)) / 2 ^ k := by
      rw [show 2 ^ (k + 1) = 2 * 2 ^ k by rw [Nat.pow_succ, Nat.mul_comm], ← Nat.div_div_eq_div_mul]
      congr 1
      split <;> omega
    rw [e]
    exact ih
theorem nodes_mask (b : Nat → Bool) (v : Nat) : nodesOf (bitOf (maskOf (v - 1) b)) v = nodesOf b v := by
  unfold nodesOf
  rw [mids_congr (v - 1) (fun k hk => mask_bit (v - 1) b k hk)]
end Vf

set_option Elab.async false
set_option linter.all false
set_option maxRecDepth 100000
set_option maxHeartbeats 4000000
namespace Vf
open PySem PySem.Spec PyProof.Rows L2
/-! ### dict comprehensions whose keys are tuples of ints and texts -/
/-- one pair put into the dict at D that is being made: y the key, z the value -/
def PutT (D : Addr) (y z : V) (H : Hp) (N : Hp → Prop) : Prop :=
  ∃ (kvs : List (List Key × V)) (k : List Key) (b : Addr), y = .ref b ∧ H b = some (.tup (k.map kV)) ∧ H D = some (.dT kvs) ∧ kvs.length < sizeLine ∧ N (upd H D (.dT (putK kvs k z)))
theorem put_runs {Y : Cx} {ps : List (Addr × Obj)} {τ : L2.St} {H : Hp} {t : Shared} {D : Addr} {y z : V} {u r : Value} {N : Hp → Prop} {F : Value → Shared → Prop} (few : Y.A.units < cLine) (I : Inv Y ps τ H t) (ky : RelV y u) (kz : RelV z r) (h : PutT D y z H N) :
    wpAny (model Y.prog Y.w) Y.A (dictSet D u r) (fun _ t' => ∃ H', Inv Y ps τ H' t' ∧ N H') F t := by
  obtain ⟨kvs, k, b, ey, eb, eD, hl, hN⟩ := h
  subst ey
  obtain rfl : u = Value.ref b := ky
  obtain ⟨h1, h2, xs, rel, dd⟩ := dt_of I.hok eD
  have lx : xs.length ≤ sizeLine := (Paired.length rel) ▸ h1
  have lp : (putK kvs k z).length ≤ sizeLine := Nat.le_trans (length_putK kvs k z) hl
  refine wpAny_dictSet_heap (hsz := lx) few (key_of I.hok eb) dd fun h' d' same => ⟨_, ?_, hN⟩
  obtain ⟨o, es, ep, g1, g2, g3, g4, _, g5⟩ := d'
  refine d_write I (eD ▸ True.intro) same ⟨o, g1⟩ ⟨lp, h2, _, (rel.put k eb kz).keeps fun c ys ec => ?_, o, es, ep, g1, g2, g3, g4, g5⟩
  exact (upd_ne (ne_of ec eD (fun z => nomatch z))).trans ec
section
variable {X : Cx}
/-- {k: v for target in iter if ..}, keys tuples: D the new dict -/
def tDcT (wi : TI) (g : TG) (tt : TT) (tk tv : TE) (own : List Nat) : TE := fun σ H Q => wi σ H fun J Ha => ∀ D, Ha D = none →
  ∃ W : Nat → Nat → Hp → Prop, (∃ m, W 0 m (upd Ha D (.dT []))) ∧ ∀ i m Hb, W i m Hb → (J.stop i Hb ∧ Q (.ref D) Hb) ∨
    (J.go i Hb ∧ ∃ N : Hp → Prop, (∀ Hc, N Hc → ∃ m', m' < m ∧ W (i + 1) m' Hc) ∧ ∀ x Hc, J.yld i Hb x Hc →
      g x (wipe σ own) Hc fun σ2 H2 => wipe σ2 own = wipe σ own ∧ tt σ2 H2 fun b H3 => if b = true then tk σ2 H3 fun y H4 => tv σ2 H4 fun z H5 => PutT D y z H5 N else N H3)
/-- the block's promise of each part, wherever the block's own room comes to stand -/
abbrev InBlkD (X : Cx) (scope : Scope) (R : Cx → Prop) : Prop := ∀ (s : Shared) (H : Hp) (C : Addr) (cl : List (Str × Addr)) (fp : List Addr), R (X.blk s H scope (compEnvC scope cl C X.env) fp)
theorem dcT_core {pins : List (Addr × Obj)} {s : Shared} {σ : L2.St} {H : Hp} {Q : VK} {kx vx tg iter : Expr} {ifs : List Expr} {scope : Scope} {own : List (Str × Nat)} {pos pos' : Pos} {wi : TI} {g : TG} {tt : TT} {tk tv : TE} {use : Option (Value → Sem Unit)} {Qf : Value → Shared → Prop}
    (calm : X.calm = true) (few : X.A.units < cLine) (nd : X.N.Nodup) (I : Inv X pins σ H s) (pi : PI X tg iter wi) (bk : BlkOk X.N X.env.scope scope own)
    (pg : InBlkD X scope fun Y => PG Y tg g) (pt : InBlkD X scope fun Y => PTs Y ifs tt) (pk : InBlkD X scope fun Y => PE Y kx tk) (pv : InBlkD X scope fun Y => PE Y vx tv) (fold : ∀ x, foldedSetIterable iter X.env x = pure x)
    (h : tDcT wi g tt tk tv (own.map (·.2)) σ H Q)
    (leave : ∀ (D C : Addr) t ms H', Inv X pins σ H' t → Q (.ref D) H' → t.heap.Ns C ms → FpOk X pins H' C → compPost (model X.prog X.w) X.A X.xe use Qf (.ref D) C (.ok .next) t) :
    wpAny (model X.prog X.w) X.A (comprehension (.DictComp kx vx [⟨tg, iter, ifs, 0⟩] scope pos) scope X.env pos' newDict false (eval iter X.env) use) Qf X.xe s := by
  have has : ∀ y ∈ scope.names, y.2 = .free → ∃ c, X.env.cells.lookup y.1 = some c := by
    intro y hy e
    exact (bk.free y hy e).elim (fun k => I.ok.has _ (.inl k)) (fun k => I.ok.has _ (.inr k))
  refine wpAny_comprehension_free (use := use) rfl fold (closure_ok has) bk.kind (fun y hy e => (bk.uniq y hy).trans (congrArg some e)) ?_
  refine thn (pi.run pins s σ H _ I h) fun v0 s1 w1 => thn w1 fun v1 s2 w2 => ?_
  obtain ⟨it, fp, tn, J, Ha, rfl, Ia, T, st, fs, q⟩ := w2
  refine wpAny_newObj_type (newEnv_comp ?_)
  -- the new dict stands at D
  obtain ⟨D, eD⟩ : ∃ D, D = s2.heap.objs.size := ⟨_, rfl⟩
  obtain ⟨W, ⟨m0, w0⟩, turn⟩ := q D (Ia.hok.fresh (Nat.le_of_eq eD.symm))
  obtain ⟨s3, es3⟩ : ∃ s3 : Shared, s3 = { s2 with heap := s2.heap.push { cls := .type "dict", data := .dict #[] } } := ⟨_, rfl⟩
  have eh : s3.heap = s2.heap.push { cls := .type "dict", data := .dict #[] } := by rw [es3]
  rw [← es3, ← eD]
  have Ib : Inv X pins σ (upd Ha D (.dT [])) s3 := by
    rw [es3, eD]
    exact Ia.laid (t' := s2.toks) (fun b o e => Heap.get?_push_of_some _ e) (Nat.le_refl _) (dt_empty s2.heap Ia.big)
  have lt : ∀ b ∈ fp, b < D := fun b hb => by
    have ⟨o, e, _⟩ := T.obj _ _ st b hb
    rw [eD]; exact Heap.lt_size e
  have fd : ∀ b ∈ fp, (upd Ha D (.dT [])) b = none := fun b hb => (upd_ne (Nat.ne_of_lt (lt b hb))).trans (fs b hb).1
  have f3 : ∀ b ∈ fp, FpOk X pins (upd Ha D (.dT [])) b ∧ b < s3.heap.objs.size := fun b hb =>
    ⟨⟨fd b hb, (fs b hb).2⟩, by rw [eh, Heap.size_push, ← eD]; exact Nat.lt_succ_of_lt (lt b hb)⟩
  have st3 : tn 0 s3.heap := T.keep _ _ _ st fun b _ o e => by rw [eh]; exact Heap.get?_push_of_some _ e
  have Ic := block_start Ib bk nd f3
  have G := pg s3 (upd Ha D (.dT [])) s3.heap.objs.size (cellsFrom (s3.heap.objs.size + 1) scope.names (cloFrom X.env.cells scope.names [])) fp
  have S := pt s3 (upd Ha D (.dT [])) s3.heap.objs.size (cellsFrom (s3.heap.objs.size + 1) scope.names (cloFrom X.env.cells scope.names [])) fp
  have Kx := pk s3 (upd Ha D (.dT [])) s3.heap.objs.size (cellsFrom (s3.heap.objs.size + 1) scope.names (cloFrom X.env.cells scope.names [])) fp
  have Vx := pv s3 (upd Ha D (.dT [])) s3.heap.objs.size (cellsFrom (s3.heap.objs.size + 1) scope.names (cloFrom X.env.cells scope.names [])) fp
  obtain ⟨ce, ece⟩ : ∃ ce, ce = compEnvC scope (cellsFrom (s3.heap.objs.size + 1) scope.names (cloFrom X.env.cells scope.names [])) s3.heap.objs.size X.env := ⟨_, rfl⟩
  have cl : ce.locals = s3.heap.objs.size := by rw [ece]; rfl
  obtain ⟨s4, es4⟩ : ∃ s4 : Shared, s4 = { s3 with heap := pushCells (s3.heap.push { cls := .type "dict", data := .dict #[] }) scope.names } := ⟨_, rfl⟩
  rw [← ece] at Ic G S Kx Vx
  rw [← es4] at Ic
  have st4 : tn 0 s4.heap := T.keep _ _ _ st3 fun b _ o e => by rw [es4]; exact pushCells_keeps _ _ _ _ (Heap.get?_push_of_some _ e)
  have pinned : ∀ {τ : L2.St} {H' : Hp} {t : Shared}, Inv (X.blk s3 (upd Ha D (.dT [])) scope ce fp) [] τ H' t → (∀ b ∈ fp, H' b = none) → ∀ b ∈ fp, FpOk (X.blk s3 (upd Ha D (.dT [])) scope ce fp) [] H' b := by
    intro τ H' t I' free b hb
    have e1 := I'.ok.exf b hb
    exact ⟨free b hb, e1.1, I'.ok.exfs b hb, .inl hb, fun x c e => e1.2 x c e, fun p hp => by cases hp⟩
  -- what the loop keeps at its turn number i
  let Keep : Nat → Shared → Prop := fun n t => ∃ i H', Inv (X.blk s3 (upd Ha D (.dT [])) scope ce fp) [] (wipe σ (own.map (·.2))) H' t ∧ tn i t.heap ∧ (∀ b ∈ fp, H' b = none) ∧ W i n H'
  have runs : codeAny (model X.prog X.w) X.A (.compLoop (.DictComp kx vx [⟨tg, iter, ifs, 0⟩] scope pos) 0 (.ref it) (.ref D) ce)
      (compPost (model X.prog X.w) X.A X.xe use Qf (.ref D) s3.heap.objs.size) s4 := by
    refine compLoop_anyD Keep ?_ m0 ⟨0, _, Ic, st4, fd, w0⟩
    intro n t1 ⟨i, Hb, I1, z1, free, w1⟩
    rcases turn i n Hb w1 with ⟨stop, hQ⟩ | ⟨go, N, less, step⟩
    · -- no further thing: back in the def
      refine thnF (T.done (X.blk s3 (upd Ha D (.dT [])) scope ce fp) rfl rfl rfl calm i [] t1 _ Hb (fun _ _ => False) I1 (pinned I1 free) z1 stop) fun r t2 ⟨er, I2⟩ => ?_
      subst er
      have Iz : Inv X pins σ Hb t2 := Ib.call' (ch := fp) I2.os I2.base I2.hok I2.bare fun b hb =>
        have f := (f3 b hb).1.2
        ⟨f.2.2.1, f.1, f.2.2.2.1, f.2.2.2.2⟩
      obtain ⟨ms, hns, _⟩ := I2.loc
      have hns : t2.heap.Ns ce.locals ms := hns
      have nl : Hb ce.locals = none := I2.free
      rw [cl] at hns nl
      exact leave D _ t2 ms Hb Iz hQ hns (Ib.fpOk (Nat.le_refl _) nl)
    · refine thnF (T.item (X.blk s3 (upd Ha D (.dT [])) scope ce fp) rfl rfl rfl calm i [] t1 _ Hb (fun _ _ => False) I1 (pinned I1 free) z1 go) fun r t2 ⟨u, er, a2⟩ => ?_
      subst er
      refine thnF a2 fun _ t3 ⟨x, Hc, I3, rx, y3, z3, free3⟩ => ?_
      refine thnF (G.run _ t3 _ Hc x u _ (I3.pinned (pinned I3 free3) (T.obj _ _ z3)) rx (step x Hc y3)) fun _ t4 ⟨σ2, H2, I4, ew, q4⟩ => ?_
      refine thnF (S.run _ t4 σ2 H2 _ I4 q4) fun b t5 ⟨H3, I5, q5⟩ => ?_
      -- how a turn ends, in the room of the block
      have close : ∀ {t : Shared} {H' : Hp}, Inv (X.blk s3 (upd Ha D (.dT [])) scope ce fp) ([] ++ pinsAt fp t3.heap) σ2 H' t → N H' → ∃ m, m < n ∧ Keep m t := by
        intro t H' I' hN
        obtain ⟨m', hm, w'⟩ := less H' hN
        have still : ∀ b ∈ fp, ∀ o, t3.heap.get? b = some o → t.heap.get? b = some o ∧ H' b = none := by
          intro b hb o e
          have p := I'.pin (b, o) (List.mem_append_right _ (List.mem_append_right _ (mem_pinsAt hb e)))
          exact ⟨p.1, p.2.1⟩
        have len : (wipe σ (own.map (·.2))).length = σ2.length := by rw [← ew]; exact wipe_length _ _
        refine ⟨m', hm, i + 1, H', (I'.unpinned (pins := [])).weak len fun j v e => ?_, T.keep _ _ _ z3 fun b hb o e => (still b hb o e).1, fun b hb => ?_, w'⟩
        · rw [← ew] at e; exact (wipe_some e).1
        · have ⟨o, e, _⟩ := T.obj _ _ z3 b hb
          exact (still b hb o e).2
      cases b with
      | false => exact close I5 q5
      | true =>
        refine thnF (Kx.run _ t5 σ2 H3 _ I5 q5) fun ku t6 ⟨y, H4, I6, ry, q6⟩ => ?_
        refine thnF (Vx.run _ t6 σ2 H4 _ I6 q6) fun vu t7 ⟨z, H5, I7, rz, q7⟩ => ?_
        exact thn (put_runs (Y := X.blk s3 (upd Ha D (.dT [])) scope ce fp) few I7 ry rz q7) fun _ t8 ⟨H6, I8, n8⟩ => close I8 n8
  have whole := codeAny_compStart_dict runs (T.self X.A 0 _ _ _ st4 runs)
  rw [ece, es4] at whole
  exact whole
/-- as a value -/
theorem pe_dcT {kx vx tg iter : Expr} {ifs : List Expr} {scope : Scope} {own : List (Str × Nat)} {pos : Pos} {wi : TI} {g : TG} {tt : TT} {tk tv : TE} (calm : X.calm = true) (few : X.A.units < cLine) (nd : X.N.Nodup) (pi : PI X tg iter wi) (bk : BlkOk X.N X.env.scope scope own)
    (pg : InBlkD X scope fun Y => PG Y tg g) (pt : InBlkD X scope fun Y => PTs Y ifs tt) (pk : InBlkD X scope fun Y => PE Y kx tk) (pv : InBlkD X scope fun Y => PE Y vx tv) (fold : ∀ x, foldedSetIterable iter X.env x = pure x := by intro _; rfl) :
    PE X (.DictComp kx vx [⟨tg, iter, ifs, 0⟩] scope pos) (tDcT wi g tt tk tv (own.map (·.2))) := by
  constructor
  intro pins s σ H Q I h
  rw [arm_eval_DictComp]
  refine dcT_core calm few nd I pi bk pg pt pk pv fold h fun D C t ms H' I' hQ hns f => ⟨ms, hns, fun h2 sb => ?_⟩
  exact ⟨.ref D, H', I'.turned (t' := t.toks) (fun b o hb e => (sb.2 b hb).trans e) f.1 f.2.1 f.2.2.2.1 f.2.2.2.2.1 f.2.2.2.2.2, rfl, hQ⟩
/-- name = {..} on one line, the name a local that no inner block reads -/
theorem ps_setDcT {i : Nat} {y : Str} {py : Pos} {kx vx tg iter : Expr} {ifs : List Expr} {scope : Scope} {own : List (Str × Nat)} {pos spos : Pos} {wi : TI} {g : TG} {tt : TT} {tk tv : TE} (calm : X.calm = true) (few : X.A.units < cLine) (nd : X.N.Nodup) (iy : X.N[i]? = some y) (ly : X.env.scope.names.lookup y = some .local)
    (sw : swapsWith (.DictComp kx vx [⟨tg, iter, ifs, 0⟩] scope pos) (some (.Name y py)) spos.line X.env = pure true) (pi : PI X tg iter wi) (bk : BlkOk X.N X.env.scope scope own)
    (pg : InBlkD X scope fun Y => PG Y tg g) (pt : InBlkD X scope fun Y => PTs Y ifs tt) (pk : InBlkD X scope fun Y => PE Y kx tk) (pv : InBlkD X scope fun Y => PE Y vx tv) (fold : ∀ x, foldedSetIterable iter X.env x = pure x := by intro _; rfl) :
    PS X (.Assign [.Name y py] (.DictComp kx vx [⟨tg, iter, ifs, 0⟩] scope pos) spos) (tAsg (tDcT wi g tt tk tv (own.map (·.2))) (gName i)) := by
  constructor
  intro pins s σ H E I h
  have h : tDcT wi g tt tk tv (own.map (·.2)) σ H (fun x H1 => gName i x σ H1 E.nx) := h
  rw [exec_Assign_Name_used _ _ _ _ sw]
  refine wpAny_bind (wpAny_standAt (wpAny_bind ?_))
  have main := dcT_core (pos := pos) (pos' := firstIterPos [⟨tg, iter, ifs, 0⟩] pos) (use := some (assign (.Name y py) X.env)) (Qf := fun _ t => SP X pins E .next t) calm few nd I pi bk pg pt pk pv fold h ?_
  · exact wpAny_bind (thn main fun _ t hq => wpAny_pure (wpAny_pure hq))
  · intro D C t ms H' I' hQ hns f
    show wpAny (model X.prog X.w) X.A (assign (.Name y py) X.env (.ref D)) _ _ _
    refine wpAny_assign_Name (store_ok2 (v := V.ref D) I' nd iy (.inl ly) rfl (fun t2 I2 ⟨a, sb, ha⟩ => ?_) (.inr ly))
    have ne : C ≠ a := ha.elim (fun z => z ▸ f.2.1) fun z e => f.2.2.2.2.1 y a z e.symm
    refine ⟨ms, hns.sameBut sb ne, fun h3 sb3 => ⟨_, H', ?_, hQ⟩⟩
    exact I2.turned (t' := t2.toks) (fun b o hb e => (sb3.2 b hb).trans e) f.1 f.2.1 f.2.2.2.1 f.2.2.2.2.1 f.2.2.2.2.2
theorem sw_dict {kx vx : Expr} {gs : List Comprehension} {scope : Scope} {pos py : Pos} {y : Str} {l : Nat} {env : Env} (fn : env.scope.kind = .function) (loc : env.scope.names.lookup y = some .local) (line : (py.line == pos.line) = true)
    (none : (scope.names.any fun (n, k) => n == y && (k == .local || k == .cell)) = false) : swapsWith (.DictComp kx vx gs scope pos) (some (.Name y py)) l env = pure true := by
  have k1 : env.kindOf y = some .local := loc
  have k2 : env.blockKind = .function := by unfold Env.blockKind; rw [fn]; rfl
  unfold swapsWith
  simp only [k1, k2, none, line, Expr.pos]
  rfl
end
/-- over any walk: Pv by the turn and the heap -/
theorem dcT_it {J : It} {n : Nat} {G : Hp → Prop} {Y : Nat → Hp → V → Hp → Prop} (w : Walk J n G Y) {g : TG} {tt : TT} {tk tv : TE} {own : List Nat} {σ : L2.St} {Ha : Hp} {D : Addr} {Qd : Hp → Prop} (Pv : Nat → Hp → Prop) (start : Pv 0 (upd Ha D (.dT []))) (stays : ∀ i H, i ≤ n → Pv i H → G H)
    (turn : ∀ i x H H', i < n → Pv i H → Y i H x H' → g x (wipe σ own) H' fun σ2 H2 => wipe σ2 own = wipe σ own ∧ tt σ2 H2 fun b H3 => if b = true then tk σ2 H3 fun y H4 => tv σ2 H4 fun z H5 => PutT D y z H5 (Pv (i + 1)) else Pv (i + 1) H3)
    (after : ∀ H, Pv n H → Qd H) :
    ∃ W : Nat → Nat → Hp → Prop, (∃ m, W 0 m (upd Ha D (.dT []))) ∧ ∀ i m Hb, W i m Hb → (J.stop i Hb ∧ Qd Hb) ∨
      (J.go i Hb ∧ ∃ N : Hp → Prop, (∀ Hc, N Hc → ∃ m', m' < m ∧ W (i + 1) m' Hc) ∧ ∀ x Hc, J.yld i Hb x Hc →
        g x (wipe σ own) Hc fun σ2 H2 => wipe σ2 own = wipe σ own ∧ tt σ2 H2 fun b H3 => if b = true then tk σ2 H3 fun y H4 => tv σ2 H4 fun z H5 => PutT D y z H5 N else N H3) := by
  refine ⟨fun i m H => m + i = n ∧ Pv i H, ⟨n, by omega, start⟩, fun i m Hb h => ?_⟩
  have ⟨e, p⟩ := h
  have ok := stays i Hb (by omega) p
  rcases Nat.lt_or_ge i n with lt | ge
  · refine .inr ⟨w.goes i Hb lt ok, Pv (i + 1), fun Hc q => ⟨m - 1, by omega, by omega, q⟩, fun x Hc y => turn i x Hb Hc lt p (w.yields i Hb x Hc lt ok y)⟩
  · obtain rfl : i = n := by omega
    exact .inl ⟨w.stops Hb ok, after Hb p⟩
end Vf

set_option Elab.async false
set_option linter.all false
set_option maxRecDepth 100000
set_option maxHeartbeats 4000000
namespace Vf
open PySem PySem.Spec PyProof.Rows L2 TL
/-! ### {k: v}, the key a tuple of ints and texts -/
def tDispT (tk tv : TE) : TE := fun σ H Q => ∀ p, H p = none → tk σ (upd H p (.dT [])) fun x H1 => tv σ H1 fun y H2 => H2 p = some (.dT []) ∧ ∃ (k : List Key) (b : Addr), x = .ref b ∧ H2 b = some (.tup (k.map kV)) ∧ Q (.ref p) (upd H2 p (.dT (putK [] k y)))
theorem pe_dispT {X : Cx} {pos : Pos} {ke ve : Expr} {tk tv : TE} (few : X.A.units < cLine) (hk : PE X ke tk) (hv : PE X ve tv) : PE X (.Dict [some ke] [ve] pos) (tDispT tk tv) := by
  refine ⟨fun pins s σ H Q I q => ?_⟩
  have hn := I.hok.fresh (Nat.le_refl s.heap.objs.size)
  have I1 := I.laid (a := s.heap.objs.size) (o := .dT []) (h' := s.heap.push { cls := .type "dict", data := .dict #[] }) (t' := s.toks) (fun _ _ q => Heap.get?_push_of_some _ q) (Nat.le_refl _) (dt_empty s.heap I.big)
  have hpp : PPs X pos [some ke] [ve] [(tk, tv)] := pps_cons hk hv pps_nil
  rw [arm_eval_Dict, zip_pairTrees [some ke] [ve] X.env pos rfl rfl, dictDisplay_pairs (pairTrees [some ke] [ve] X.env pos) (by simp [pairTrees]) (by show 1 < 17; decide)]
  refine wpAny_bind (wpAny_standAt (wpAny_bind (wpAny_subDictH (knd := tupleKind (mixKind X.prog X.w)) few (by show 1 ≤ 15; decide) ?_)))
  refine thn (hpp.run pins _ σ _ (fun ps H2 => match ps with
    | [(x, y)] => H2 s.heap.objs.size = some (.dT []) ∧ ∃ (k : List Key) (b : Addr), x = .ref b ∧ H2 b = some (.tup (k.map kV)) ∧ Q (.ref s.heap.objs.size) (upd H2 s.heap.objs.size (.dT (putK [] k y)))
    | _ => False) I1 (q _ hn)) fun ws s2 ⟨ps, H2, I2, rel, h⟩ => ?_
  match ps, h with
  | [(x, y)], h =>
    obtain ⟨eD, k, b, ex, eb, hQ⟩ := h
    subst ex
    cases rel with
    | @cons p0 w0 ps0 ws0 hrel hrest =>
    cases hrest
    obtain ⟨u, r⟩ := w0
    obtain ⟨hu, hr⟩ := hrel
    obtain rfl : u = Value.ref b := hu
    obtain ⟨h1, h2, xs, rk, dd⟩ := dt_of I2.hok eD
    cases rk
    refine ⟨[(k, b, r)], ⟨rfl, rfl, key_of I2.hok eb, trivial⟩, dd, fun h' tk d' same => wpAny_pure ?_⟩
    obtain ⟨o, es, ep, g1, g2, g3, g4, _, g5⟩ := d'
    refine ⟨.ref s.heap.objs.size, upd H2 s.heap.objs.size (.dT (putK [] k y)), d_write I2 (eD ▸ True.intro) same ⟨o, g1⟩ ⟨by show 1 ≤ sizeLine; decide, h2, _, ((show KT H2 [] [] from .nil).put k eb hr).keeps fun c ys ec => ?_, o, es, ep, g1, g2, g3, g4, g5⟩, rfl, hQ⟩
    exact (upd_ne (ne_of ec eD (fun z => nomatch z))).trans ec
  | [], h => exact h.elim
  | _ :: _ :: _, h => exact h.elim
end Vf

set_option Elab.async false
set_option linter.all false
set_option maxRecDepth 100000
set_option maxHeartbeats 4000000
namespace Vf
open PySem PySem.Spec PyProof.Rows L2 TL
/-! ### rows of cells in another order, slices of tuples -/
/-- the cells of a row that holds the same things -/
theorem cells_perm {H : Hp} {us ws : List V} {ds : List Arc} (lv : LV (ArcV H) ws ds) (hp : us.Perm ws) : ∃ ds' : List Arc, LV (ArcV H) us ds' ∧ (∀ r, r ∈ ds' → r ∈ ds) ∧ (∀ r, r ∈ ds → r ∈ ds') := by
  -- each thing of us is a cell of ds
  have one : ∀ x ∈ us, ∃ r, r ∈ ds ∧ ArcV H x r := by
    intro x hx
    obtain ⟨i, hi, e⟩ := List.mem_iff_getElem.mp (hp.mem_iff.mp hx)
    obtain ⟨r, hr, h⟩ := lv.at (i := i) (x := x) (by rw [List.getElem?_eq_getElem hi, e])
    exact ⟨r, List.mem_of_getElem? hr, h⟩
  have make : ∀ l : List V, (∀ x ∈ l, ∃ r, r ∈ ds ∧ ArcV H x r) → ∃ ds' : List Arc, LV (ArcV H) l ds' ∧ ∀ r, r ∈ ds' → r ∈ ds := by
    intro l
    induction l with
    | nil => exact fun _ => ⟨[], LV.nil, fun _ h => nomatch h⟩
    | cons x l ih =>
      intro h
      obtain ⟨r, hr, hx⟩ := h x List.mem_cons_self
      obtain ⟨ds', h1, h2⟩ := ih fun y hy => h y (List.mem_cons_of_mem _ hy)
      refine ⟨r :: ds', ⟨by rw [List.length_cons, List.length_cons, h1.1], fun i q e => ?_⟩, fun y hy => ?_⟩
      · cases i with
        | zero => exact ⟨x, rfl, by rw [← Option.some.inj e]; exact hx⟩
        | succ i => exact h1.2 i q e
      · rcases List.mem_cons.mp hy with e | e
        · rw [e]; exact hr
        · exact h2 y e
  obtain ⟨ds', h1, h2⟩ := make us one
  refine ⟨ds', h1, h2, fun r hr => ?_⟩
  obtain ⟨i, hi, e⟩ := List.mem_iff_getElem.mp hr
  obtain ⟨x, gx, hx⟩ := lv.2 i r (by rw [List.getElem?_eq_getElem hi, e])
  obtain ⟨j, hj, e2⟩ := List.mem_iff_getElem.mp (hp.mem_iff.mpr (List.mem_of_getElem? gx))
  obtain ⟨r', hr', hx'⟩ := h1.at (i := j) (x := x) (by rw [List.getElem?_eq_getElem hj, e2])
  -- one thing holds one cell
  obtain ⟨b, eb, hb⟩ := hx
  obtain ⟨b', eb', hb'⟩ := hx'
  rw [eb] at eb'
  have := V.ref.inj eb'
  subst this
  rw [hb] at hb'
  have h := HO.tup.inj (Option.some.inj hb')
  have h3 := List.cons.inj h
  have h4 := List.cons.inj h3.2
  have h5 := List.cons.inj h4.2
  have : r = r' := by
    have a1 : r.1 = r'.1 := Int.ofNat.inj (V.int.inj h3.1)
    have a2 : r.2.1 = r'.2.1 := Int.ofNat.inj (V.int.inj h4.1)
    have a3 : r.2.2 = r'.2.2 := Int.ofNat.inj (V.int.inj h5.1)
    exact Prod.ext a1 (Prod.ext a2 a3)
  rw [this]
  exact List.mem_of_getElem? hr'
theorem LV.app {α : Type} {R : V → α → Prop} {vs us : List V} {rs qs : List α} (h : LV R vs rs) (g : LV R us qs) : LV R (vs ++ us) (rs ++ qs) := by
  refine ⟨by rw [List.length_append, List.length_append, h.1, g.1], fun i r e => ?_⟩
  by_cases hi : i < rs.length
  · rw [List.getElem?_append_left hi] at e
    obtain ⟨x, e1, e2⟩ := h.2 i r e
    exact ⟨x, by rw [List.getElem?_append_left (by rw [h.1]; exact hi)]; exact e1, e2⟩
  · rw [List.getElem?_append_right (by omega)] at e
    obtain ⟨x, e1, e2⟩ := g.2 _ r e
    exact ⟨x, by rw [List.getElem?_append_right (by rw [h.1]; omega), h.1]; exact e1, e2⟩
theorem LV.takeN {α : Type} {R : V → α → Prop} {vs : List V} {rs : List α} (n : Nat) (h : LV R vs rs) : LV R (vs.take n) (rs.take n) := by
  refine ⟨by rw [List.length_take, List.length_take, h.1], fun i r e => ?_⟩
  rw [List.getElem?_take] at e
  by_cases c : i < n
  · rw [if_pos c] at e
    obtain ⟨x, e1, e2⟩ := h.2 i r e
    exact ⟨x, by rw [List.getElem?_take, if_pos c]; exact e1, e2⟩
  · rw [if_neg c] at e; cases e
theorem cut_one (xs : List V) : cutV xs none (some 1) = xs.take 1 := by
  unfold cutV
  rw [HT.sIx_none, show (some (1 : Int)) = some ((1 : Nat) : Int) from rfl, HT.sIx_nat, List.drop_zero, Nat.sub_zero]
  cases xs with
  | nil => rfl
  | cons x r => rw [Nat.min_eq_left (by rw [List.length_cons]; omega)]
theorem slA_any {K : PySem.W.Frag} {a : Addr} {xs : List V} {lo hi : Option Int} {H : Hp} {Q : VK} (e : H a = some (.tup xs)) (q : ∀ b H', Same H H' → H' b = some (.tup (cutV xs lo hi)) → Q (.ref b) H') : rSlA K (.ref a) lo hi H Q := by
  refine ⟨a, xs, rfl, SqT.of e, fun ⟨h1, h2⟩ => q a H (Same.refl H) ?_, fun _ p np => q p _ (same_upd (Same.refl H) np) upd_same⟩
  rw [e]
  unfold cutV
  rw [h1, h2, List.drop_zero, Nat.sub_zero, List.take_length]
theorem cut_from1 (xs : List V) : cutV xs (some 1) none = xs.drop 1 := by
  unfold cutV
  rw [HT.sIx_none, show (some (1 : Int)) = some ((1 : Nat) : Int) from rfl, HT.sIx_nat]
  cases xs with
  | nil => rfl
  | cons x r =>
    rw [Nat.min_eq_left (by rw [List.length_cons]; omega)]
    show r.take (r.length + 1 - 1) = r
    rw [Nat.add_sub_cancel, List.take_length]
theorem slA_from {K : PySem.W.Frag} {a : Addr} {xs : List V} {lo : Option Int} {H : Hp} {Q : VK} {σ : L2.St} (e : H a = some (.tup xs)) (q : ∀ b H', Same H H' → H' b = some (.tup (cutV xs lo none)) → Q (.ref b) H') : tNoPart σ H (fun u H3 => rSlA K (.ref a) lo u H3 Q) :=
  slA_any e q
end Vf

set_option Elab.async false
set_option linter.all false
set_option maxRecDepth 100000
set_option maxHeartbeats 4000000
namespace Vf
open PySem PySem.Spec PyProof.Rows L2 TL
/-! ### pairs of numbers as keys; bounds and tails by such keys -/
/-- len, told the frame (for the block of a comprehension) -/
def rLenK (K : PySem.W.Frag) : List V → Hp → VK → Prop := fun xs H Q => ∃ p ys, xs = [V.ref p] ∧ (SqL K H p ys ∨ SqT K H p ys) ∧ Q (V.int (ys.length : Nat)) H
theorem szM {n : Nat} (h : n < 300000) : n < sizeLine := Nat.lt_of_lt_of_le h (by decide)
def FgV (H : Hp) (x : V) (r : Nat × Nat) : Prop := ∃ b, x = .ref b ∧ H b = some (.tup [nV r.1, nV r.2])
theorem FgV.same {H H' : Hp} {x : V} {r : Nat × Nat} (h : FgV H x r) (k : Same H H') : FgV H' x r := by
  obtain ⟨b, e, f⟩ := h
  exact ⟨b, e, k _ _ f⟩
theorem FgV.kt {H H' : Hp} {x : V} {r : Nat × Nat} (h : FgV H x r) (k : ∀ a xs, H a = some (.tup xs) → H' a = some (.tup xs)) : FgV H' x r := by
  obtain ⟨b, e, f⟩ := h
  exact ⟨b, e, k _ _ f⟩
def keyP (x : Nat × Nat) : List Key := [.inl (x.1 : Int), .inl (x.2 : Int)]
theorem keyP_inj {x y : Nat × Nat} (h : keyP x = keyP y) : x = y := by
  injection h with h1 h2
  injection h2 with h2 _
  exact Prod.ext (Int.ofNat.inj (Sum.inl.inj h1)) (Int.ofNat.inj (Sum.inl.inj h2))
def Inj (ps : List (Nat × Nat)) : Prop := ∀ (i j : Nat) (x : Nat × Nat), ps[i]? = some x → ps[j]? = some x → i = j
/-- the dict at D: at the key of each place j what f has for j, told by val -/
def BdT (H : Hp) (D : Addr) (N : Nat) (ps : List (Nat × Nat)) (val : Nat → V) (f : Nat → Option Nat) : Prop := ∃ kvs : List (List Key × V), H D = some (.dT kvs) ∧ kvs.length ≤ N ∧ ∀ j x, ps[j]? = some x → valV kvs (keyP x) = (f j).map val
theorem BdT.keep {H H' : Hp} {D : Addr} {N : Nat} {ps : List (Nat × Nat)} {val : Nat → V} {f : Nat → Option Nat} (h : BdT H D N ps val f) (k : ∀ o, H D = some o → H' D = some o) : BdT H' D N ps val f := by
  obtain ⟨kvs, e, r⟩ := h
  exact ⟨kvs, k _ e, r⟩
theorem BdT.keep' {H : Hp} {D : Addr} {N M : Nat} {ps : List (Nat × Nat)} {val : Nat → V} {f : Nat → Option Nat} (h : BdT H D N ps val f) (l : N ≤ M) : BdT H D M ps val f := by
  obtain ⟨kvs, e, r, v⟩ := h
  exact ⟨kvs, e, Nat.le_trans r l, v⟩
theorem BdT.get {H : Hp} {D b : Addr} {N j : Nat} {ps : List (Nat × Nat)} {val : Nat → V} {f : Nat → Option Nat} {x : Nat × Nat} (h : BdT H D N ps val f) (e : ps[j]? = some x) (eb : H b = some (.tup [nV x.1, nV x.2])) : DGet H D (.ref b) ((f j).map val) := by
  obtain ⟨kvs, e1, _, v⟩ := h
  rw [← v j x e]
  exact DGet.t (k := keyP x) e1 eb
theorem BdT.put {H : Hp} {D b : Addr} {N j : Nat} {ps : List (Nat × Nat)} {val : Nat → V} {f : Nat → Option Nat} {x : Nat × Nat} (h : BdT H D N ps val f) (inj : Inj ps) (hN : N < 299999) (e : ps[j]? = some x) (eb : H b = some (.tup [nV x.1, nV x.2])) (y : Nat) :
    ∃ H', DPut H D (.ref b) (val y) H' ∧ BdT H' D (N + 1) ps val (fset f j y) ∧ ∃ o, H' = upd H D o := by
  obtain ⟨kvs, e1, l, v⟩ := h
  refine ⟨_, DPut.t (k := keyP x) e1 eb (szM (by omega)), ⟨_, upd_same, Nat.le_trans (length_putK _ _ _) (by omega), fun i z ez => ?_⟩, _, rfl⟩
  rw [valV_put]
  by_cases c : i = j
  · subst c
    rw [ez] at e
    rw [Option.some.inj e, if_pos rfl, fset_same]; rfl
  · have cn : ¬ keyP z = keyP x := fun q => c (inj i j x (by rw [← keyP_inj q]; exact ez) e)
    rw [if_neg cn, fset_ne c]
    exact v i z ez
end Vf

set_option Elab.async false
set_option linter.all false
set_option maxRecDepth 100000
set_option maxHeartbeats 4000000
/-! ### enumerate over a tuple -/
namespace PySem
set_option maxHeartbeats 2000000 in
theorem vf_meets {v : Value} {o : Obj} {G : Heap → Prop} (B : Begins v o G) :
    Meets (Builtin.«enumerate.__new__» ⟨[.type "enumerate", v], []⟩)
      (fun _ R s => G s.heap ∧ R (.ok (.ret (.ref (s.heap.push o).objs.size)))
        { s with heap := (s.heap.push o).push { cls := .type "enumerate", data := .fields #[.none, .bool false, .ref s.heap.objs.size, rawInt 0, .none, .none] } }) := by
  refine .of_wp fun prog w A R s h => ?_
  rcases s with ⟨hp, g, d, tk, os⟩
  rcases h with ⟨g1, r1⟩
  have sb := sub_enumerate
  have begins : ∀ {A' : Around} {E : Value → Shared → Prop} {Q : Value → Shared → Prop}, Q (.ref hp.objs.size) ⟨hp.push o, g, d, tk, os⟩ →
      wpAny (model prog w) A' (pyIter v) Q E ⟨hp, g, d, tk, os⟩ := fun q => B.iter prog w _ _ ⟨hp, g, d, tk, os⟩ _ g1 q
  wp_walk using begins
  refine wpAny_stack_any fun st => (wpAny_pure ?_)
  split
  next c _ _ _ _ _ =>
    cases (c == Value.type "enumerate") <;> (wp_walk using begins; exact Exists.intro _ (And.intro rfl r1))
  next => wp_walk using begins; exact Exists.intro _ (And.intro rfl r1)
section
variable {prog : Program} {w : World} {A : Around} {E : Value → Shared → Prop} {s : Shared}
theorem vf_enum {v : Value} {o : Obj} {G : Heap → Prop} {Q : Value → Shared → Prop} (B : Begins v o G) (g1 : G s.heap)
    (h : ∀ h' : Heap, IsEnum h' (s.heap.objs.size + 1) s.heap.objs.size 0 .none → h'.get? s.heap.objs.size = some o →
      (∀ b u, s.heap.get? b = some u → h'.get? b = some u) → Q (.ref (s.heap.objs.size + 1)) { s with heap := h' }) :
    wpAny (model prog w) A (call (.type "enumerate") [v]) Q E s := by
  have zz : (s.heap.push o).objs.size = s.heap.objs.size + 1 := Heap.size_push ..
  have ie : IsEnum ((s.heap.push o).push { cls := .type "enumerate", data := .fields #[.none, .bool false, .ref s.heap.objs.size, rawInt 0, .none, .none] }) (s.heap.objs.size + 1) s.heap.objs.size 0 .none := by
    have q := Heap.get?_push_size (s.heap.push o) (o := { cls := .type "enumerate", data := .fields #[.none, .bool false, .ref s.heap.objs.size, rawInt 0, .none, .none] }) rfl
    rw [zz] at q
    exact q
  refine callType_new F.called_enumerate (by decide) (F.typeCall_enumerate_1 _) (F.newCall_enumerate_1 _)
    (fun obj => F.args_object_init_2 obj _) F.entry_enumerate_new (vf_meets B) (And.intro g1 ?_)
  show _ ∧ _
  rw [zz]
  exact ⟨⟨_, ie, rfl⟩, h _ ie (Heap.get?_push_of_some _ (Heap.get?_push_size _ B.free))
    fun b u x => Heap.get?_push_of_some _ (Heap.get?_push_of_some _ x)⟩
end
end PySem
namespace Vf
open PySem PySem.Spec PyProof.Rows L2 TL
/-- the tuple at a, each item in a new pair with its number -/
def IteT (K : PySem.W.Frag) (a : Addr) : It where
  go := fun i H => ∃ (xs : List V) (x : V), SqT K H a xs ∧ xs[i]? = some x
  yld := fun i H v H' => ∃ (T : Addr) (x : V), v = .ref T ∧ H T = none ∧ H' = upd H T (.tup [.int (i : Nat), x]) ∧ ∀ xs, SqT K H a xs → xs[i]? = some x
  stop := fun i H => ∃ xs : List V, SqT K H a xs ∧ xs.length = i
theorem apart_of {h : Heap} {a b : Addr} {o u : Obj} {m n : String} (ha : h.get? a = some o) (hb : h.get? b = some u) (ca : o.cls = .type m) (cb : u.cls = .type n) (ne : m ≠ n) : a ≠ b := fun e => by
  rw [e, hb] at ha
  have e2 : u = o := Option.some.inj ha
  rw [e2, ca] at cb
  exact ne (by injection cb)
theorem turn_enumT {P : Program} {w : World} {K : PySem.W.Frag} {elts : List Expr} {kk : Nat} {tpos : Pos} (a e it : Addr) :
    Turn P w K (.Tuple elts kk tpos) (IteT K a) [e, it] e (fun i h => (∃ old, IsEnum h e it ((i : Nat) : Int) old) ∧ h.IsTupleIter it a i ∧ e ≠ it) where
  mem := List.mem_cons_self
  obj := fun i h st b hb => by
    obtain ⟨⟨old, ie⟩, ⟨u, hu, _, du⟩, _⟩ := st
    rcases List.mem_cons.mp hb with z | z
    · rw [z]; exact ⟨_, ie, fun v q => nomatch q⟩
    · rw [List.mem_singleton.mp z]; exact ⟨u, hu, fun v q => by rw [du] at q; cases q⟩
  keep := fun i h h' st k => by
    obtain ⟨⟨old, ie⟩, it1, ne⟩ := st
    exact ⟨⟨old, k e List.mem_cons_self _ ie⟩, it1.at fun u q => k it (List.mem_cons_of_mem _ List.mem_cons_self) u q, ne⟩
  item := by
    intro X hP hw hK hc i pins s σ H E I hf st hg
    subst hP hw hK
    obtain ⟨⟨old, ie⟩, it1, ne⟩ := st
    obtain ⟨xs, x, hq, hx⟩ := hg
    obtain ⟨its, rv, p, hz⟩ := I.tuple hq
    obtain ⟨u, hu, ru⟩ := rv.get hx
    have p2 : s.heap.IsTuple a its.toArray := p
    obtain ⟨oa, ga, ca, _⟩ := id p2
    obtain ⟨oi, gi, ci, _⟩ := id it1
    have nai : a ≠ it := apart_of ga gi ca ci (by decide)
    have nea : e ≠ a := apart_of (m := "enumerate") ie ga rfl ca (by decide)
    have hel : e < s.heap.objs.size := Heap.lt_size ie
    have hil : it < s.heap.objs.size := Heap.lt_size gi
    have hil2 : i < its.toArray.size := by
      have := (List.getElem?_eq_some_iff.mp hu).1
      simpa using this
    refine wpAny_pyNext_enum_itemD (Draws.tuple (prog := X.prog) (w := X.w) (A := X.A.in1) (I.ok.hd hc) it a nai its.toArray) ie ⟨it1, p2⟩ hil2 ne ?_ fun y h' tk hy ho hst hT hsz hk => ?_
    · intro hm
      rcases List.mem_cons.mp hm with z | z
      · exact ne z
      · exact nea (List.mem_singleton.mp z)
    have eu : y = u := by
      have h1 : its[i]? = some y := by simpa using hy
      exact Option.some.inj (h1.symm.trans hu)
    subst eu
    refine ⟨_, rfl, wpAny_letOwnedTupleGo_enum (s := { s with heap := h', toks := tk + 1 }) ho fun h2 he2 sb => ?_⟩
    have hT2 : h2.get? s.heap.objs.size = some { cls := .type "tuple", data := .seq #[.int i tk, y] } := (sb.2 _ (Nat.ne_of_gt hel)).trans hT
    have made : ObjOk X.prog X.w (upd H s.heap.objs.size (.tup [.int (i : Nat), x])) h2 s.heap.objs.size (.tup [.int (i : Nat), x]) :=
      ⟨(by show 2 ≤ sizeLine; decide), [.int i tk, y], .cons ⟨_, rfl⟩ (.cons ru .nil), ⟨_, hT2, rfl, _, rfl⟩⟩
    have J : Inv X pins σ (upd H s.heap.objs.size (.tup [.int (i : Nat), x])) { s with heap := h2, toks := tk + 1 } :=
      I.turnedNew (ch := [e, it]) (fun b ob hb q => (sb.2 b (fun z => hb (by rw [z]; exact List.mem_cons_self))).trans
        (hk b ob (fun z => hb (by rw [z]; exact List.mem_cons_self)) (fun z => hb (by rw [z]; exact List.mem_cons_of_mem _ List.mem_cons_self)) q)) hf (Nat.le_refl _) made
    have e1 : ((i + 1 : Nat) : Int) = (i : Int) + 1 := by omega
    refine ⟨.ref s.heap.objs.size, _, J, rfl, ⟨_, x, rfl, I.hok.fresh (Nat.le_refl _), rfl, fun ys hy2 => by rw [I.tuple_inj hy2 hq]; exact hx⟩,
      ⟨⟨y, by rw [e1]; exact he2⟩, hst.1.at fun u2 q => (sb.2 it (Ne.symm ne)).trans q, ne⟩, fun b hb => ?_⟩
    have hlt : b < s.heap.objs.size := by
      rcases List.mem_cons.mp hb with z | z
      · rw [z]; exact hel
      · rw [List.mem_singleton.mp z]; exact hil
    rw [upd_ne (Nat.ne_of_lt hlt)]
    exact (hf b hb).1
  done := by
    intro X hP hw hK hc i pins s σ H E I hf st hg
    subst hP hw hK
    obtain ⟨⟨old, ie⟩, it1, ne⟩ := st
    obtain ⟨xs, hq, hx⟩ := hg
    obtain ⟨its, rv, p, hz⟩ := I.tuple hq
    have p2 : s.heap.IsTuple a its.toArray := p
    obtain ⟨oa, ga, ca, _⟩ := id p2
    obtain ⟨oi, gi, ci, di⟩ := id it1
    have nai : a ≠ it := apart_of ga gi ca ci (by decide)
    obtain ⟨f0, f1, f2, f3, f4, f5⟩ := hf it (List.mem_cons_of_mem _ List.mem_cons_self)
    have hl := rv.length
    refine wpAny_pyNext_enum_endD (Draws.tuple (prog := X.prog) (w := X.w) (A := X.A.in1) (I.ok.hd hc) it a nai its.toArray) ie ⟨?_, p2⟩ fun h' eb => ⟨rfl, I.turned (t' := s.toks) (fun b o hb q => eb b o hb q) f0 f1 f3 f4 f5⟩
    have ei : its.toArray.size = i := by simp; omega
    rw [ei]
    exact it1
  self := fun A i s Q E st h => by
    obtain ⟨⟨_, ie⟩, _⟩ := st
    exact wpAny_pyIter_enum ie h
def iEnumT (K : PySem.W.Frag) (ta : TA) : TI := fun σ H R => ta σ H fun vs H1 => ∃ (a : Addr) (xs : List V), vs = [.ref a] ∧ SqT K H1 a xs ∧ R (IteT K a) H1
theorem pi_enumT {X : Cx} {e : Expr} {ta : TA} {p pos tpos : Pos} {elts : List Expr} {kk : Nat} (hg : Gl X "enumerate") (hm : X.mg "enumerate" = none) (ha : PA X [e] ta)
    (hs : starEach [e] X.env = [(false, eval e X.env)] := by rfl) : PI X (.Tuple elts kk tpos) (.Call (.Name "enumerate" p) [e] [] pos) (iEnumT X.K ta) := by
  constructor
  intro pins s σ H R I h
  refine Call_ (ld_blt I hg hm boot_enumerate (PyProof.Rows.callWith_type1 (thn (ha.run pos pins s σ H _ I h) fun us s1 res => ?_) hs rfl))
  obtain ⟨vs, H1, I1, r1, a, xs, ex, hq, q⟩ := res
  subst ex
  cases r1 with
  | cons r rr =>
    cases rr
    cases r
    obtain ⟨its, rv, p', hz⟩ := I1.tuple hq
    refine vf_enum (begins_tuple a its.toArray) (show s1.heap.IsTuple a its.toArray from p') fun h' ie gi hk => wpAny_pyIter_enum ie ?_
    have J : Inv X pins σ H1 { s1 with heap := h' } := I1.kept (t' := s1.toks) hk
    refine ⟨s1.heap.objs.size + 1, [s1.heap.objs.size + 1, s1.heap.objs.size], _, _, H1, rfl, J, turn_enumT a (s1.heap.objs.size + 1) s1.heap.objs.size, ⟨⟨.none, ie⟩, ⟨_, gi, rfl, rfl⟩, Nat.succ_ne_self _⟩, fun b hb => ?_, q⟩
    have le : s1.heap.objs.size ≤ b := by
      rcases List.mem_cons.mp hb with z | z
      · rw [z]; exact Nat.le_succ _
      · rw [List.mem_singleton.mp z]; exact Nat.le_refl _
    exact I1.fpOk le (I1.hok.fresh le)
/-- for i, x in enumerate(t): a word for each turn -/
theorem for_enumT {K : PySem.W.Frag} {a : Addr} {xs : List V} {g : TG} {tb : TS} {D : Ends} {σ : L2.St} {H : Hp} (Pv : Nat → L2.St → Hp → Prop) (h0 : Pv 0 σ H) (hl : ∀ i σ H, i ≤ xs.length → Pv i σ H → SqT K H a xs)
    (hs : ∀ i x T σ H, xs[i]? = some x → Pv i σ H → H T = none → g (.ref T) σ (upd H T (.tup [.int (i : Nat), x])) fun σ2 H2 => tb { D with nx := Pv (i + 1), ct := Pv (i + 1), bk := D.nx } σ2 H2) (hd : ∀ σ H, Pv xs.length σ H → D.nx σ H) :
    tFor (fun _ H R => R (IteT K a) H) g tb D σ H := by
  refine ⟨fun i m σ H => m = xs.length - i ∧ i ≤ xs.length ∧ Pv i σ H, ⟨xs.length, rfl, Nat.zero_le _, h0⟩, ?_⟩
  rintro i m σ H ⟨rfl, hi, p⟩
  have q := hl i σ H hi p
  by_cases hlt : i < xs.length
  · refine .inr ⟨⟨xs, xs[i], q, List.getElem?_eq_getElem hlt⟩, Pv (i + 1), fun σ' H' p' => ⟨xs.length - (i + 1), by omega, rfl, hlt, p'⟩, fun v H' y => ?_⟩
    obtain ⟨T, x, rfl, hT, rfl, hx⟩ := y
    exact hs i x T σ H (hx _ q) p hT
  · have e : i = xs.length := by omega
    subst e
    exact .inl ⟨⟨xs, q, rfl⟩, hd σ H p⟩
theorem walk_enumT {K : PySem.W.Frag} {a : Addr} {xs : List V} : Walk (IteT K a) xs.length (fun H => SqT K H a xs) (YPair (fun i => some (.int (i : Nat))) (fun i => xs[i]?)) := by
  refine ⟨fun i _ hi q => ⟨xs, xs[i], q, by simp [hi]⟩, fun _ q => ⟨xs, q, rfl⟩, fun i H v H' _ q y => ?_⟩
  obtain ⟨T, x, h1, h2, h3, h4⟩ := y
  exact ⟨T, .int (i : Nat), x, h1, h2, h3, rfl, h4 xs q⟩
/-- a dict comprehension whose keys are ints or texts -/
theorem dcK_it {J : It} {n : Nat} {G : Hp → Prop} {Y : Nat → Hp → V → Hp → Prop} (w : Walk J n G Y) {g : TG} {tt : TT} {tk tv : TE} {own : List Nat} {σ : L2.St} {Ha : Hp} {D : Addr} {Qd : Hp → Prop} (Pv : Nat → Hp → Prop) (start : Pv 0 (upd Ha D (.dK []))) (stays : ∀ i H, i ≤ n → Pv i H → G H)
    (turn : ∀ i x H H', i < n → Pv i H → Y i H x H' → g x (wipe σ own) H' fun σ2 H2 => wipe σ2 own = wipe σ own ∧ tt σ2 H2 fun b H3 => if b = true then tk σ2 H3 fun y H4 => tv σ2 H4 fun z H5 => ∃ kvs k, y = kV k ∧ H5 D = some (.dK kvs) ∧ kvs.length < sizeLine ∧ Pv (i + 1) (upd H5 D (.dK (putK kvs k z))) else Pv (i + 1) H3)
    (after : ∀ H, Pv n H → Qd H) :
    ∃ W : Nat → Nat → Hp → Prop, (∃ m, W 0 m (upd Ha D (.dK []))) ∧ ∀ i m Hb, W i m Hb → (J.stop i Hb ∧ Qd Hb) ∨
      (J.go i Hb ∧ ∃ N : Hp → Prop, (∀ Hc, N Hc → ∃ m', m' < m ∧ W (i + 1) m' Hc) ∧ ∀ x Hc, J.yld i Hb x Hc →
        g x (wipe σ own) Hc fun σ2 H2 => wipe σ2 own = wipe σ own ∧ tt σ2 H2 fun b H3 => if b = true then tk σ2 H3 fun y H4 => tv σ2 H4 fun z H5 => ∃ kvs k, y = kV k ∧ H5 D = some (.dK kvs) ∧ kvs.length < sizeLine ∧ N (upd H5 D (.dK (putK kvs k z))) else N H3) := by
  refine ⟨fun i m H => m + i = n ∧ Pv i H, ⟨n, by omega, start⟩, fun i m Hb h => ?_⟩
  have ⟨e, p⟩ := h
  have ok := stays i Hb (by omega) p
  rcases Nat.lt_or_ge i n with lt | ge
  · refine .inr ⟨w.goes i Hb lt ok, Pv (i + 1), fun Hc q => ⟨m - 1, by omega, by omega, q⟩, fun x Hc y => turn i x Hb Hc lt p (w.yields i Hb x Hc lt ok y)⟩
  · obtain rfl : i = n := by omega
    exact .inl ⟨w.stops Hb ok, after Hb p⟩
end Vf

set_option Elab.async false
set_option linter.all false
set_option maxRecDepth 100000
set_option maxHeartbeats 4000000
namespace Vf
open PySem PySem.Spec PyProof.Rows L2 TL
/-! ### a comprehension with two for -/
theorem lc2_out {J : It} {n : Nat} {G : Hp → Prop} {Y : Nat → Hp → V → Hp → Prop} (w : Walk J n G Y) {g : TG} {tt : TT} {Body : L2.St → Hp → (Hp → Prop) → Prop} {vs : List Nat} {σ : L2.St} {H1 : Hp} {D : Addr} {Qd : Hp → Prop} (Pv : Nat → Hp → Prop) (h0 : Pv 0 (upd H1 D (.lst []))) (hG : ∀ i H, i ≤ n → Pv i H → G H)
    (hs : ∀ i x H H', i < n → Pv i H → Y i H x H' → g x (wipe σ vs) H' fun σ2 H2 => wipe σ2 vs = wipe σ vs ∧ tt σ2 H2 fun b H3 => if b = true then Body σ2 H3 (Pv (i + 1)) else Pv (i + 1) H3) (hd : ∀ H, Pv n H → Qd H) :
    ∃ W : Nat → Nat → Hp → Prop, (∃ m, W 0 m (upd H1 D (.lst []))) ∧ ∀ i m H, W i m H →
      (J.stop i H ∧ Qd H) ∨ (J.go i H ∧ ∃ Nx : Hp → Prop, (∀ H', Nx H' → ∃ m', m' < m ∧ W (i + 1) m' H') ∧ ∀ x H', J.yld i H x H' → g x (wipe σ vs) H' fun σ2 H2 => wipe σ2 vs = wipe σ vs ∧ tt σ2 H2 fun b H3 =>
        if b = true then Body σ2 H3 Nx else Nx H3) := by
  refine ⟨fun i m H => m = n - i ∧ i ≤ n ∧ Pv i H, ⟨n, by simp, Nat.zero_le _, h0⟩, ?_⟩
  rintro i m H ⟨rfl, hi, p⟩
  have q := hG i H hi p
  by_cases hlt : i < n
  · exact .inr ⟨w.goes i H hlt q, Pv (i + 1), fun H' p' => ⟨n - (i + 1), by omega, rfl, hlt, p'⟩, fun x H' y => hs i x H H' hlt p (w.yields i H x H' hlt q y)⟩
  · have e : i = n := by omega
    subst e
    exact .inl ⟨w.stops H q, hd H p⟩
theorem lc2_in {J : It} {n : Nat} {G : Hp → Prop} {Y : Nat → Hp → V → Hp → Prop} (w : Walk J n G Y) {g1 : TG} {tt1 : TT} {te : TE} {vs1 : List Nat} {σ2 : L2.St} {H4 : Hp} {D : Addr} {Nx : Hp → Prop} (Pv : Nat → Hp → Prop) (h0 : Pv 0 H4) (hG : ∀ i H, i ≤ n → Pv i H → G H)
    (hs : ∀ j x H H', j < n → Pv j H → Y j H x H' → g1 x (wipe σ2 vs1) H' fun σ3 H5 => wipe σ3 vs1 = wipe σ2 vs1 ∧ tt1 σ3 H5 fun b H6 => if b = true then te σ3 H6 fun y H7 => ∃ acc, H7 D = some (.lst acc) ∧ acc.length < sizeLine ∧ Pv (j + 1) (upd H7 D (.lst (acc ++ [y]))) else Pv (j + 1) H6) (hd : ∀ H, Pv n H → Nx H) :
    ∃ W1 : Nat → Nat → Hp → Prop, (∃ m, W1 0 m H4) ∧ ∀ j k H, W1 j k H →
      (J.stop j H ∧ Nx H) ∨ (J.go j H ∧ ∃ Nx1 : Hp → Prop, (∀ H', Nx1 H' → ∃ k', k' < k ∧ W1 (j + 1) k' H') ∧ ∀ x H', J.yld j H x H' → g1 x (wipe σ2 vs1) H' fun σ3 H5 => wipe σ3 vs1 = wipe σ2 vs1 ∧ tt1 σ3 H5 fun b H6 =>
        if b = true then te σ3 H6 fun y H7 => ∃ acc, H7 D = some (.lst acc) ∧ acc.length < sizeLine ∧ Nx1 (upd H7 D (.lst (acc ++ [y]))) else Nx1 H6) := by
  refine ⟨fun i m H => m = n - i ∧ i ≤ n ∧ Pv i H, ⟨n, by simp, Nat.zero_le _, h0⟩, ?_⟩
  rintro i m H ⟨rfl, hi, p⟩
  have q := hG i H hi p
  by_cases hlt : i < n
  · exact .inr ⟨w.goes i H hlt q, Pv (i + 1), fun H' p' => ⟨n - (i + 1), by omega, rfl, hlt, p'⟩, fun x H' y => hs i x H H' hlt p (w.yields i H x H' hlt q y)⟩
  · have e : i = n := by omega
    subst e
    exact .inl ⟨w.stops H q, hd H p⟩
end Vf

set_option Elab.async false
set_option linter.all false
set_option maxRecDepth 100000
set_option maxHeartbeats 4000000
namespace Vf
open PySem PySem.Spec PyProof.Rows L2 TL
/-- two values are the same data, at most n - 1 tuples deep -/
def Eqv : Nat → Hp → V → V → Prop
  | 0, _, _, _ => False
  | n + 1, H, v, u => ((∃ z, v = .str z ∧ u = .str z) ∨ (∃ i, v = .int i ∧ u = .int i) ∨ (v = .non ∧ u = .non)) ∨
      ∃ (a b : Addr) (xs ys : List V), v = .ref a ∧ u = .ref b ∧ H a = some (.tup xs) ∧ H b = some (.tup ys) ∧ xs.length = ys.length ∧ xs.length ≤ 100000 ∧ ∀ (i : Nat) x y, xs[i]? = some x → ys[i]? = some y → Eqv n H x y
def spExact (n : Nat) : Sp := fun vs H Q _ => ∃ (v u : V), vs = [v, u] ∧ Eqv n H v u ∧ Q (.bl true) H
theorem eq_self {H : Hp} {Q : VK} {x : V} (q : Q (.bl true) H) : Q (.bl (decide (x = x))) H := by
  rw [decide_eq_true rfl]; exact q
section
variable {P : Program} {w : World} {K : PySem.W.Frag} {mg : Str → Option Value} {base : Heap}
theorem ok_exact (T : Txt K mg) : ∀ n : Nat, FnOk P w K mg base CX0 (n + 1) T.a_law_exact T.d_law_exact ["_law_told", "_law_due"] (spExact n)
  | 0 => by
    refine T.D_law_exact.F.ok sc_law_exact (fun vs H Q E h => ?_) (fun cdv A outer s H vs Q E hr h => ?_)
    · obtain ⟨v, u, rfl, _⟩ := h
      rfl
    · obtain ⟨v, u, rfl, hE, q⟩ := h
      exact hE.elim
  | n + 1 => by
    have G_law_exact : FnOk P w K mg base CX0 (n + 1) T.a_law_exact T.d_law_exact ["_law_told", "_law_due"] (spExact n) := ok_exact T n
    refine T.D_law_exact.F.ok sc_law_exact (fun vs H Q E h => ?_) (fun cdv A outer s H vs Q E hr h => ?_)
    · obtain ⟨v, u, rfl, _⟩ := h
      rfl
    · obtain ⟨v, u, rfl, hE, q⟩ := h
      refine ⟨_, (pss_cons (ps_if (pt_val (pe_callB call_isi (by rfl) T.n_isinstance (by decide +kernel) (pa_cons (pv 1) (pa_cons (pe_bltn (v := .ty "tuple") (by rfl) T.n_tuple (by decide +kernel) rfl) pa_nil)))) (pss_cons (ps_if (PW.pt (pw_or (pt_not (pt_val (pe_callB call_isi (by rfl) T.n_isinstance (by decide +kernel) (pa_cons (pv 0) (pa_cons (pe_bltn (v := .ty "tuple") (by rfl) T.n_tuple (by decide +kernel) rfl) pa_nil))))) (pw_or1 (pt_cmpR op_ne (pe_callB call_len (by rfl) T.n_len PySem.boot_len (pa_cons (pv 0) pa_nil)) (pe_callB call_len (by rfl) T.n_len PySem.boot_len (pa_cons (pv 1) pa_nil)) (nomark _))))) (pss_one (ps_ret pe_bl)) pss_nil)
      (pss_cons (ps_for PassesOwn.never rfl (pi_range1 (by rfl) T.n_range (pa_cons (pe_callB call_len (by rfl) T.n_len PySem.boot_len (pa_cons (pv 1) pa_nil)) pa_nil)) (pg_name (i := 2) sc_law_exact.nd rfl (.inl rfl)) (pss_one (ps_if (pt_not (pt_val (pe_call G_law_exact hr (by rfl) T.D_law_exact.G T.D_law_exact.F.kp T.D_law_exact.B .nil pass0 (pa_cons (pe_ix ix_seq (pv 0) (pv 2) (fun _ _ => rfl)) (pa_cons (pe_ix ix_seq (pv 1) (pv 2) (fun _ _ => rfl)) pa_nil))))) (pss_one (ps_ret pe_bl)) pss_nil)))
      (pss_one (ps_ret pe_bl)))) pss_nil)
      (pss_cons (ps_if (pt_cmpR op_isN (pv 1) pe_non (nomark _)) (pss_one (ps_ret (pe_cmpR op_isN (pv 0) pe_non (nomark _)))) pss_nil)
      (pss_cons (ps_if (pt_val (pe_callB call_isi (by rfl) T.n_isinstance (by decide +kernel) (pa_cons (pv 1) (pa_cons (pe_bltn (v := .ty "bool") (by rfl) T.n_bool (by decide +kernel) rfl) pa_nil)))) (pss_one (ps_ret (pe_and (pe_callB call_isi (by rfl) T.n_isinstance (by decide +kernel) (pa_cons (pv 0) (pa_cons (pe_bltn (v := .ty "bool") (by rfl) T.n_bool (by decide +kernel) rfl) pa_nil))) (pe_one (pe_cmpR op_eq (pv 0) (pv 1) (nomark _)))))) pss_nil)
      (pss_cons (ps_if (pt_val (pe_callB call_isi (by rfl) T.n_isinstance (by decide +kernel) (pa_cons (pv 1) (pa_cons (pe_bltn (v := .ty "int") (by rfl) T.n_int (by decide +kernel) rfl) pa_nil)))) (pss_one (ps_ret (pe_and (pe_callB call_isi (by rfl) T.n_isinstance (by decide +kernel) (pa_cons (pv 0) (pa_cons (pe_bltn (v := .ty "int") (by rfl) T.n_int (by decide +kernel) rfl) pa_nil))) (pe_and (pe_not (pe_callB call_isi (by rfl) T.n_isinstance (by decide +kernel) (pa_cons (pv 0) (pa_cons (pe_bltn (v := .ty "bool") (by rfl) T.n_bool (by decide +kernel) rfl) pa_nil)))) (pe_one (pe_cmpR op_eq (pv 0) (pv 1) (nomark _))))))) pss_nil)
      (pss_one (ps_ret (pe_and (pe_callB call_isi (by rfl) T.n_isinstance (by decide +kernel) (pa_cons (pv 0) (pa_cons (pe_bltn (v := .ty "str") (by rfl) T.n_str (by decide +kernel) rfl) pa_nil))) (pe_one (pe_cmpR op_eq (pv 0) (pv 1) (nomark _)))))))))), ?_⟩
      rcases hE with (⟨z, rfl, rfl⟩ | ⟨i, rfl, rfl⟩ | ⟨rfl, rfl⟩) | ⟨a, b, xs, ys, rfl, rfl, ha, hb, el, en, hE⟩
      · refine ⟨_, rfl, _, _, .type "str", .type "tuple", false, rfl, .ty _, .base (.str _), kit_ty (by decide +kernel), _, rfl, ?_⟩
        refine ⟨_, rfl, rfl, false, bl_of (decide_eq_false (fun e => by cases e)), ?_⟩
        refine ⟨_, rfl, _, _, .type "str", .type "bool", false, rfl, .ty _, .base (.str _), kit_ty (by decide +kernel), _, rfl, ?_⟩
        refine ⟨_, rfl, _, _, .type "str", .type "int", false, rfl, .ty _, .base (.str _), kit_ty (by decide +kernel), _, rfl, ?_⟩
        exact ⟨_, rfl, _, _, .type "str", .type "str", true, rfl, .ty _, .base (.str _), kit_ty (by decide +kernel), true, rfl, _, rfl, _, rfl, rfl, eq_self q⟩
      · refine ⟨_, rfl, _, _, .type "int", .type "tuple", false, rfl, .ty _, .base (.int _), kit_ty (by decide +kernel), _, rfl, ?_⟩
        refine ⟨_, rfl, rfl, false, bl_of (decide_eq_false (fun e => by cases e)), ?_⟩
        refine ⟨_, rfl, _, _, .type "int", .type "bool", false, rfl, .ty _, .base (.int _), kit_ty (by decide +kernel), _, rfl, ?_⟩
        refine ⟨_, rfl, _, _, .type "int", .type "int", true, rfl, .ty _, .base (.int _), kit_ty (by decide +kernel), _, rfl, ?_⟩
        exact ⟨_, rfl, _, _, .type "int", .type "int", true, rfl, .ty _, .base (.int _), kit_ty (by decide +kernel), true, rfl, _, rfl, _, _, .type "int", .type "bool", false, rfl, .ty _, .base (.int _), kit_ty (by decide +kernel), false, rfl, true, rfl, _, rfl, _, rfl, rfl, eq_self q⟩
      · refine ⟨_, rfl, _, _, .type "NoneType", .type "tuple", false, rfl, .ty _, .base .non, kit_ty (by decide +kernel), _, rfl, ?_⟩
        exact ⟨_, rfl, rfl, true, bl_of (decide_eq_true rfl), _, rfl, rfl, eq_self q⟩
      · refine ⟨_, rfl, _, _, .type "tuple", .type "tuple", true, rfl, .ty _, .base (.tup hb), kit_ty (by decide +kernel), _, rfl, ?_⟩
        refine ⟨_, rfl, _, _, .type "tuple", .type "tuple", true, rfl, .ty _, .base (.tup ha), kit_ty (by decide +kernel), _, rfl, ?_⟩
        refine ⟨_, rfl, _, _, rfl, .inr ⟨_, SqT.of ha, rfl⟩, _, rfl, _, _, rfl, .inr ⟨_, SqT.of hb, rfl⟩, rfl, false, ?_, ?_⟩
        · rw [el, decide_eq_true rfl]; rfl
        refine ⟨_, rfl, _, _, rfl, .inr ⟨_, SqT.of hb, rfl⟩, _, rfl, by omega, by omega, ?_⟩
        refine for_range (lo := 0) (n := ((ys.length : Nat) : Int).toNat) (fun i σ' H' => H' = H ∧ ∃ x2 : Option V, σ' = [some (.ref a), some (.ref b), x2]) ⟨rfl, none, rfl⟩ ?_ ?_
        · rintro i σ' H' hi ⟨rfl, x2, rfl⟩
          have hi2 : i < ys.length := by omega
          have hi1 : i < xs.length := by omega
          have gx : xs[i]? = some xs[i] := List.getElem?_eq_getElem hi1
          have gy : ys[i]? = some ys[i] := List.getElem?_eq_getElem hi2
          have e0 : ((0 : Int) + (i : Int)) = (i : Int) := Int.zero_add _
          refine ⟨_, rfl, _, rfl, .inr (.inl ⟨a, xs, _, _, rfl, rfl, SqT.of ha, at_of e0 gx, ?_⟩)⟩
          refine ⟨_, rfl, _, rfl, .inr (.inl ⟨b, ys, _, _, rfl, rfl, SqT.of hb, at_of e0 gy, ?_⟩)⟩
          exact ⟨_, _, rfl, hE i _ _ gx gy, true, rfl, rfl, _, rfl⟩
        · rintro σ' H' ⟨rfl, x2, rfl⟩
          exact q
end
end Vf

set_option Elab.async false
set_option linter.all false
set_option maxRecDepth 100000
set_option maxHeartbeats 4000000
namespace Vf
open PySem PySem.Spec PyProof.Rows L2 TL
/-! ### text times int -/
theorem op_mul_str {X : Cx} : OpR X (binaryOp .Mult) (fun x y H Q => ∃ z n, x = .str z ∧ y = .int n ∧ MulOk z n ∧ Q (.str (Txt.mul z n)) H) := by
  intro pins s σ H x y v u Q I rx ry h
  obtain ⟨z, n, rfl, rfl, hm, q⟩ := h
  obtain ⟨t, rfl⟩ := rx
  obtain ⟨t', rfl⟩ := ry
  exact SB.mul hm fun t' k => ⟨.str (Txt.mul z n), H, I.tok _, ⟨_, rfl⟩, q⟩
theorem mul_fill {k : Nat} (h : k ≤ 2) : MulOk ("_" : Str) (k : Int) ∧ Txt.mul ("_" : Str) (k : Int) = mkS (List.replicate k 95) := by
  rcases k with _ | _ | _ | k
  · exact ⟨⟨by decide, fun h => absurd (by decide) h, fun h => absurd (by decide) h⟩, by decide +kernel⟩
  · exact ⟨⟨by decide, fun _ h => absurd h (by decide), fun _ h => absurd h (by decide)⟩, by decide +kernel⟩
  · exact ⟨⟨by decide, fun _ _ => by decide +kernel, fun _ _ => by decide +kernel⟩, by decide +kernel⟩
  · omega
theorem cutMid {zs : List Nat} {i e : Nat} (h1 : i ≤ zs.length) (h2 : e ≤ zs.length) : cutS (mkS zs) (some (i : Int)) (some (e : Int)) = mkS ((zs.drop i).take (e - i)) := by
  unfold cutS
  rw [HT.sIx_nat, HT.sIx_nat, mkS_len, Nat.min_eq_left h1, Nat.min_eq_left h2]
  rfl
theorem cutOne {zs : List Nat} : cutS (mkS zs) none (some (1 : Int)) = mkS (zs.take 1) := by
  unfold cutS
  rw [show (some (1 : Int)) = some ((1 : Nat) : Int) from rfl, HT.sIx_nat, HT.sIx_none, mkS_len]
  show mkS ((zs.drop 0).take (min 1 zs.length - 0)) = _
  rw [List.drop_zero, Nat.sub_zero]
  by_cases c : 1 ≤ zs.length
  · rw [Nat.min_eq_left c]
  · rw [Nat.min_eq_right (by omega), List.take_of_length_le (Nat.le_refl _), List.take_of_length_le (by omega)]
/-- a row more -/
theorem look_snoc {κ β : Type} [DecidableEq κ] {L : List (κ × β)} {r : κ × β} (h : ∀ q ∈ L, q.1 ≠ r.1) (k : κ) : look (L ++ [r]) k = if r.1 = k then some r.2 else look L k := by
  induction L with
  | nil =>
    by_cases e : r.1 = k
    · rw [if_pos e, ← e]; exact look_hit
    · rw [if_neg e]; exact look_miss e
  | cons q L ih =>
    have ih := ih fun x hx => h x (List.mem_cons_of_mem _ hx)
    by_cases e : q.1 = k
    · have : r.1 ≠ k := fun z => h q List.mem_cons_self (e.trans z.symm)
      rw [if_neg this, ← e]
      show look (q :: (L ++ [r])) q.1 = look (q :: L) q.1
      rw [look_hit, look_hit]
    · show look (q :: (L ++ [r])) k = _
      rw [look_miss e, look_miss e, ih]
theorem fresh_W {S : Sty} (h : StyOk S) {n : Nat} {r : Nat × Nat} (hr : S.W[n]? = some r) : ∀ q ∈ S.W.take n, q.1 ≠ r.1 := by
  intro q hq e
  obtain ⟨i, hi⟩ := List.mem_iff_getElem?.mp hq
  rw [List.getElem?_take] at hi
  by_cases c : i < n
  · rw [if_pos c] at hi
    have g1 : (rowsW S.W)[i]? = some ([q.1], natV q.2) := by unfold rowsW; rw [List.getElem?_map, hi]; rfl
    have g2 : (rowsW S.W)[n]? = some ([r.1], natV r.2) := by unfold rowsW; rw [List.getElem?_map, hr]; rfl
    exact lexN_ne (h.sw.lt g1 g2 c) (by show [q.1] = [r.1]; rw [e])
  · rw [if_neg c] at hi; cases hi
theorem fresh_2 {L : List ((Nat × Nat) × Nat)} (h : Asc (rows2 L)) {n : Nat} {r : (Nat × Nat) × Nat} (hr : L[n]? = some r) : ∀ q ∈ L.take n, q.1 ≠ r.1 := by
  intro q hq e
  obtain ⟨i, hi⟩ := List.mem_iff_getElem?.mp hq
  rw [List.getElem?_take] at hi
  by_cases c : i < n
  · rw [if_pos c] at hi
    have g1 : (rows2 L)[i]? = some ([q.1.1, q.1.2], natV q.2) := by unfold rows2; rw [List.getElem?_map, hi]; rfl
    have g2 : (rows2 L)[n]? = some ([r.1.1, r.1.2], natV r.2) := by unfold rows2; rw [List.getElem?_map, hr]; rfl
    exact lexN_ne (h.lt g1 g2 c) (by show [q.1.1, q.1.2] = [r.1.1, r.1.2]; rw [e])
  · rw [if_neg c] at hi; cases hi
theorem wOf_snoc {S : Sty} (h : StyOk S) {n : Nat} {r : Nat × Nat} (hr : S.W[n]? = some r) (c : Nat) : wOf (S.W.take (n + 1)) c = if r.1 = c then r.2 else wOf (S.W.take n) c := by
  unfold wOf
  rw [take_succ' hr, look_snoc (fresh_W h hr)]
  by_cases e : r.1 = c
  · rw [if_pos e, if_pos e]; rfl
  · rw [if_neg e, if_neg e]
theorem cutOf_snoc {L : List ((Nat × Nat) × Nat)} (h : Asc (rows2 L)) {n : Nat} {r : (Nat × Nat) × Nat} (hr : L[n]? = some r) (a b : Nat) : cutOf (L.take (n + 1)) a b = (if r.1 = (a, b) then r.2 else 0) + cutOf (L.take n) a b := by
  unfold cutOf
  rw [take_succ' hr, look_snoc (fresh_2 h hr)]
  by_cases e : r.1 = (a, b)
  · rw [if_pos e, if_pos e, look_none fun q hq z => fresh_2 h hr q hq (z.trans e.symm)]; rfl
  · rw [if_neg e, if_neg e, Nat.zero_add]
theorem sgn_eq (a b : Nat) : decide (sgn a = sgn b) = decide (a = b) := decide_eq_decide.mpr ⟨fun h => by
  have h := V.str.inj h
  have := congrArg (fun t : Str => t.cps.toList) h
  exact (List.cons.inj this).1, fun h => by rw [h]⟩
theorem RowsV.row {H : Hp} {vs : List V} {L : List (List Nat × V)} {n : Nat} {x : V} (hl : vs.length = L.length) (h : ∀ (i : Nat) (r : List Nat × V), L[i]? = some r → ∃ b : Addr, vs[i]? = some (.ref b) ∧ H b = some (.tup (rowV r))) (hx : vs[n]? = some x) : ∃ (r : List Nat × V) (b : Addr), L[n]? = some r ∧ x = .ref b ∧ H b = some (.tup (rowV r)) := by
  have hn := (List.getElem?_eq_some_iff.mp hx).1
  have g : L[n]? = some L[n] := List.getElem?_eq_getElem (by omega)
  obtain ⟨b, e1, e2⟩ := h n _ g
  rw [hx] at e1
  exact ⟨_, b, g, Option.some.inj e1, e2⟩
theorem map_at2 {α β : Type} {f : α → β} {l : List α} {i : Nat} {y : β} (h : (l.map f)[i]? = some y) : ∃ x, l[i]? = some x ∧ y = f x := by
  obtain ⟨x, e1, e2⟩ := at_map h
  exact ⟨x, e1, e2.symm⟩
section
variable {P : Program} {w : World} {K : PySem.W.Frag} {mg : Str → Option Value} {base : Heap}
def spLawPiece : Sp := fun vs H Q _ => ∃ (v : V) (S : Sty) (zs : List Nat) (i j : Nat), vs = [v, sV zs, .int (i : Int), .int (j : Int)] ∧ StyV H v S ∧ StyOk S ∧ WdOk zs ∧ i ≤ j ∧ j ≤ zs.length ∧ Q (sV (pieceN S zs i j)) H
def partN (S : Sty) (zs : List Nat) (i j n : Nat) : List Nat := (List.range' i n).flatMap (fun k => zs.getD k 0 :: List.replicate (wAt S zs j k - 1) 95)
theorem partN_len {S : Sty} (h : StyOk S) (zs : List Nat) (i j n : Nat) : (partN S zs i j n).length ≤ 3 * n := by
  unfold partN
  have : ∀ l : List Nat, (l.flatMap (fun k => zs.getD k 0 :: List.replicate (wAt S zs j k - 1) 95)).length ≤ 3 * l.length := by
    intro l
    induction l with
    | nil => exact Nat.le_refl _
    | cons a r ih =>
      rw [List.flatMap_cons, List.length_append, List.length_cons, List.length_replicate, List.length_cons]
      have := wAt_bd h zs j a
      omega
  have := this (List.range' i n)
  rw [List.length_range'] at this
  exact this
theorem ok_law_piece (T : Txt K mg) : FnOk P w K mg base CX0 1 T.a_law_piece T.d_law_piece ["_law_style", "_law_word", "_law_first", "_law_behind"] spLawPiece := by
  refine T.D_law_piece.F.ok sc_law_piece (fun vs H Q E h => ?_) (fun cdv A outer s H vs Q E hr h => ?_)
  · obtain ⟨v, S, zs, k, j, rfl, _⟩ := h
    rfl
  · obtain ⟨v, S, zs, i, j, rfl, ⟨a, wv, cv, bv, pv_, rfl, e, ⟨wa, ws, rfl, ew, lw, hW⟩, ⟨ca, cs, rfl, ec, lc, hC⟩, h3⟩, ok, wd, hij, hj, q⟩ := h
    refine ⟨_, (pss_cons (ps_set (i := 4) sc_law_piece.nd rfl (.inl rfl) pe_str)
      (pss_cons (ps_for PassesOwn.never rfl (pi_range2 (by rfl) T.n_range (pa_cons (pv 2) (pa_cons (pv 3) pa_nil))) (pg_name (i := 5) sc_law_piece.nd rfl (.inl rfl)) (pss_cons (ps_set (i := 6) sc_law_piece.nd rfl (.inl rfl) pe_int)
      (pss_cons (ps_for PassesOwn.never rfl (pi_tup (pe_ix ix_tup (pv 0) pe_int (fun _ _ => rfl))) (pg_tup (by rfl) (pgs_cons (pg_name (i := 7) sc_law_piece.nd rfl (.inl rfl)) (pgs_cons (pg_name (i := 8) sc_law_piece.nd rfl (.inl rfl)) pgs_nil))) (pss_one (ps_if (pt_cmpR op_eq (pv 7) (pe_ix ix_str (pv 1) (pv 5) (fun _ _ => rfl)) (nomark _)) (pss_one (ps_set (i := 6) sc_law_piece.nd rfl (.inl rfl) (pv 8))) pss_nil)))
      (pss_cons (ps_for PassesOwn.never rfl (pi_tup (pe_ix ix_tup (pv 0) pe_int (fun _ _ => rfl))) (pg_tup (by rfl) (pgs_cons (pg_name (i := 7) sc_law_piece.nd rfl (.inl rfl)) (pgs_cons (pg_name (i := 9) sc_law_piece.nd rfl (.inl rfl)) (pgs_cons (pg_name (i := 10) sc_law_piece.nd rfl (.inl rfl)) pgs_nil)))) (pss_one (ps_if (PW.pt (pw_and (pt_cmpR op_eq (pv 7) (pe_ix ix_str (pv 1) (pv 5) (fun _ _ => rfl)) (nomark _)) (pw_and1 (pt_cmpR op_eq (pe_slice sl_str (pe_slice sl_str (pv 1) (po_some (pe_op op_add (pv 5) pe_int)) (po_some (pv 3))) po_none (po_some pe_int)) (pv 9) (nomark _))))) (pss_one (ps_set (i := 6) sc_law_piece.nd rfl (.inl rfl) (pe_op op_sub (pv 6) (pv 10)))) pss_nil)))
      (pss_one (ps_set (i := 4) sc_law_piece.nd rfl (.inl rfl) (pe_op op_add_str (pe_op op_add_str (pv 4) (pe_ix ix_str (pv 1) (pv 5) (fun _ _ => rfl))) (pe_op op_mul_str pe_str (pe_op op_sub (pv 6) pe_int)))))))))
      (pss_one (ps_ret (pe_ifExp (pt_cmpR op_lt (pv 3) (pe_callB call_len_str (by rfl) T.n_len PySem.boot_len (pa_cons (pv 1) pa_nil)) (nomark _)) (pe_op op_add_str (pv 4) pe_str) (pv 4)))))), ?_⟩
    have hb : (mkS zs).length ≤ sizeLine := by rw [mkS_len]; exact big_ok (by have := wd.len; omega)
    have hl := wd.len
    refine ⟨_, rfl, _, rfl, i, j, rfl, ⟨by omega, by omega, by omega, by omega⟩, ?_⟩
    have en : ((j : Int) - (i : Int)).toNat = j - i := by omega
    rw [en]
    refine for_it walk_range (fun n σ' H' => H' = H ∧ ∃ (x5 x6 x7 x8 x9 x10 : Option V), σ' = [some (.ref a), some (sV zs), some (.int (i : Int)), some (.int (j : Int)), some (sV (partN S zs i j n)), x5, x6, x7, x8, x9, x10]) ⟨rfl, none, none, none, none, none, none, rfl⟩ (fun _ _ _ _ _ => trivial) ?_ ?_
    · rintro n x σ' H' H'' hn ⟨rfl, x5, x6, x7, x8, x9, x10, rfl⟩ ⟨rfl, hx⟩
      have hx : x = .int ((i + n : Nat) : Int) := hx
      subst hx
      have g0 := wd.at (show i + n < zs.length by omega)
      refine ⟨_, rfl, a, _, _, _, rfl, rfl, SqT.of e, rfl, wa, rfl, ⟨ws, SqT.of ew⟩, ?_⟩
      refine for_it (walk_tup (K := K) (a := wa) (xs := ws)) (fun m σ' H2 => H2 = H'' ∧ ∃ (x7 x8 : Option V), σ' = [some (.ref a), some (sV zs), some (.int (i : Int)), some (.int (j : Int)), some (sV (partN S zs i j n)), some (.int ((i + n : Nat) : Int)), some (natV (wOf (S.W.take m) (zs.getD (i + n) 0))), x7, x8, x9, x10]) ⟨rfl, x7, x8, rfl⟩ (fun _ _ _ _ h => by rw [h.1]; exact SqT.of ew) ?_ ?_
      · rintro m x σ' H2 H3 hm ⟨rfl, x7, x8, rfl⟩ ⟨rfl, hx⟩
        obtain ⟨r, b, hr1, rfl, hb1⟩ := RowsV.row lw hW hx
        obtain ⟨r, hr2, rfl⟩ := map_at2 hr1
        refine ⟨b, _, rfl, SqT.of hb1, rfl, _, _, rfl, _, _, rfl, rfl, ?_⟩
        refine ⟨_, rfl, _, rfl, _, rfl, mkS zs, _, _, rfl, rfl, hb, atI_nat g0.1, rfl, decide (r.1 = zs.getD (i + n) 0), congrArg V.bl (sgn_eq _ _), ite2 (fun c => ?_) (fun c => ?_)⟩
        · have c := of_decide_eq_true c
          refine ⟨_, rfl, rfl, some (sgn r.1), some (natV r.2), ?_⟩
          rw [wOf_snoc ok hr2, if_pos c]; rfl
        · have c : ¬ r.1 = zs.getD (i + n) 0 := fun z => c (decide_eq_true z)
          refine ⟨rfl, some (sgn r.1), some (natV r.2), ?_⟩
          rw [wOf_snoc ok hr2, if_neg c]; rfl
      · rintro σ' H2 ⟨rfl, x7, x8, rfl⟩
        have el : S.W.take ws.length = S.W := List.take_of_length_le (by rw [lw, len_rW]; exact Nat.le_refl _)
        rw [el]
        refine ⟨_, rfl, a, _, _, _, rfl, rfl, SqT.of e, rfl, ca, rfl, ⟨cs, SqT.of ec⟩, ?_⟩
        refine for_it (walk_tup (K := K) (a := ca) (xs := cs)) (fun m σ' H3 => H3 = H2 ∧ ∃ (x7 x8 x9 x10 : Option V), σ' = [some (.ref a), some (sV zs), some (.int (i : Int)), some (.int (j : Int)), some (sV (partN S zs i j n)), some (.int ((i + n : Nat) : Int)), some (.int ((wOf S.W (zs.getD (i + n) 0) : Int) - ((if i + n + 1 < j then cutOf (S.C.take m) (zs.getD (i + n) 0) (zs.getD (i + n + 1) 0) else 0 : Nat) : Int))), x7, x8, x9, x10]) ⟨rfl, x7, x8, x9, x10, ?_⟩ (fun _ _ _ _ h => by rw [h.1]; exact SqT.of ec) ?_ ?_
        · have : (if i + n + 1 < j then cutOf (S.C.take 0) (zs.getD (i + n) 0) (zs.getD (i + n + 1) 0) else 0) = 0 := by
            by_cases c : i + n + 1 < j
            · rw [if_pos c]; rfl
            · rw [if_neg c]
          rw [this]
          show _ = [_, _, _, _, _, _, some (V.int ((wOf S.W (zs.getD (i + n) 0) : Int) - 0)), _, _, _, _]
          rw [Int.sub_zero]; rfl
        · rintro m x σ' H3 H4 hm ⟨rfl, x7, x8, x9, x10, rfl⟩ ⟨rfl, hx⟩
          obtain ⟨r, b, hr1, rfl, hb1⟩ := RowsV.row lc hC hx
          obtain ⟨r, hr2, rfl⟩ := map_at2 hr1
          have en2 := cutOf_snoc ok.sc hr2 (zs.getD (i + n) 0) (zs.getD (i + n + 1) 0)
          have en3 : ¬ r.1 = (zs.getD (i + n) 0, zs.getD (i + n + 1) 0) → cutOf (S.C.take (m + 1)) (zs.getD (i + n) 0) (zs.getD (i + n + 1) 0) = cutOf (S.C.take m) (zs.getD (i + n) 0) (zs.getD (i + n + 1) 0) := fun h => by rw [en2, if_neg h, Nat.zero_add]
          refine ⟨b, _, rfl, SqT.of hb1, rfl, _, _, rfl, _, _, rfl, _, _, rfl, rfl, ?_⟩
          refine ⟨_, rfl, _, rfl, _, rfl, mkS zs, _, _, rfl, rfl, hb, atI_nat g0.1, rfl, decide (r.1.1 = zs.getD (i + n) 0), congrArg V.bl (sgn_eq _ _), ?_⟩
          by_cases c : r.1.1 = zs.getD (i + n) 0
          · rw [decide_eq_true c]
            have ek : ((i + n : Nat) : Int) + 1 = ((i + n + 1 : Nat) : Int) := rfl
            refine ⟨_, rfl, _, rfl, _, _, rfl, rfl, _, rfl, _, rfl, _, rfl, mkS zs, rfl, hb, ?_⟩
            rw [ek, cutMid (show i + n + 1 ≤ zs.length by omega) hj]
            refine ⟨_, rfl, _, rfl, by rw [mkS_len, List.length_take, List.length_drop]; exact big_ok (by omega), ?_⟩
            rw [cutOne]
            by_cases c2 : i + n + 1 < j
            · have g1 : zs[i + n + 1]? = some (zs.getD (i + n + 1) 0) := (wd.at (show i + n + 1 < zs.length by omega)).1
              have e5 : ((zs.drop (i + n + 1)).take (j - (i + n + 1))).take 1 = [zs.getD (i + n + 1) 0] := by
                rw [drop_y g1, List.take_take, Nat.min_eq_left (by omega), List.take_succ_cons, List.take_zero]
              rw [e5]
              refine ⟨_, rfl, rfl, decide (zs.getD (i + n + 1) 0 = r.1.2), congrArg V.bl (sgn_eq _ _), ite2 (fun c3 => ?_) (fun c3 => ?_)⟩
              · have c3 := of_decide_eq_true c3
                have ev : (wOf S.W (zs.getD (i + n) 0) : Int) - ((if i + n + 1 < j then cutOf (S.C.take m) (zs.getD (i + n) 0) (zs.getD (i + n + 1) 0) else 0 : Nat) : Int) - (r.2 : Int) = (wOf S.W (zs.getD (i + n) 0) : Int) - ((if i + n + 1 < j then cutOf (S.C.take (m + 1)) (zs.getD (i + n) 0) (zs.getD (i + n + 1) 0) else 0 : Nat) : Int) := by
                  rw [if_pos c2, if_pos c2, en2, if_pos (Prod.ext c c3.symm)]
                  omega
                refine ⟨_, rfl, _, rfl, _, _, rfl, rfl, rfl, some (sgn r.1.1), x8, some (sgn r.1.2), some (natV r.2), ?_⟩
                rw [← ev]; rfl
              · refine ⟨rfl, some (sgn r.1.1), x8, some (sgn r.1.2), some (natV r.2), ?_⟩
                rw [en3 (fun z => c3 (decide_eq_true (by rw [z])))]; rfl
            · have e5 : ((zs.drop (i + n + 1)).take (j - (i + n + 1))).take 1 = [] := by
                rw [show j - (i + n + 1) = 0 by omega, List.take_zero]; rfl
              rw [e5]
              refine ⟨_, rfl, rfl, false, bF (fun z => ?_), rfl, some (sgn r.1.1), x8, some (sgn r.1.2), some (natV r.2), ?_⟩
              · have z := congrArg (fun t : Str => t.cps.toList) (V.str.inj z)
                cases z
              · rw [if_neg c2, if_neg c2]; rfl
          · rw [decide_eq_false c]
            refine ⟨rfl, some (sgn r.1.1), x8, some (sgn r.1.2), some (natV r.2), ?_⟩
            rw [en3 (fun z => c (by rw [z]))]; rfl
        · rintro σ' H3 ⟨rfl, x7, x8, x9, x10, rfl⟩
          have el2 : S.C.take cs.length = S.C := List.take_of_length_le (by rw [lc, len_r2]; exact Nat.le_refl _)
          rw [el2]
          have ew2 : (wOf S.W (zs.getD (i + n) 0) : Int) - ((if i + n + 1 < j then cutOf S.C (zs.getD (i + n) 0) (zs.getD (i + n + 1) 0) else 0 : Nat) : Int) = ((wAt S zs j (i + n) : Nat) : Int) := by
            unfold wAt
            by_cases c : i + n + 1 < j
            · rw [if_pos c, if_pos c]
              have := cut_lt ok (zs.getD (i + n) 0) (zs.getD (i + n + 1) 0)
              omega
            · rw [if_neg c, if_neg c]; omega
          rw [ew2]
          have wb := wAt_bd ok zs j (i + n)
          obtain ⟨u, eu, hu⟩ : ∃ u : Nat, wAt S zs j (i + n) = u + 1 ∧ u ≤ 2 := ⟨wAt S zs j (i + n) - 1, by omega, by omega⟩
          have pl := partN_len ok zs i j n
          have mf := mul_fill hu
          refine ⟨_, rfl, _, rfl, _, rfl, mkS zs, _, _, rfl, rfl, hb, atI_nat g0.1, mkS (partN S zs i j n), mkS [zs.getD (i + n) 0], rfl, rfl, by rw [mkS_len, mkS_len]; exact big_ok (by show _ + 1 ≤ _; omega), ?_⟩
          refine ⟨_, rfl, _, _, rfl, rfl, _, _, rfl, rfl, by rw [eu]; show MulOk _ ((u : Int) + 1 - 1); rw [Int.add_sub_cancel]; exact mf.1, ?_⟩
          rw [eu]
          have e9 : ((u + 1 : Nat) : Int) - 1 = (u : Int) := by omega
          rw [e9, mf.2, mkS_app]
          refine ⟨_, _, rfl, rfl, ?_, ?_⟩
          · rw [mkS_len, mkS_len, List.length_append, List.length_replicate]; exact big_ok (by show _ + 1 + _ ≤ _; omega)
          · have e6 : partN S zs i j (n + 1) = partN S zs i j n ++ [zs.getD (i + n) 0] ++ List.replicate u 95 := by
              unfold partN
              rw [List.range'_1_concat, List.flatMap_append, List.append_assoc]
              congr 1
              show (zs.getD (i + n) 0 :: List.replicate (wAt S zs j (i + n) - 1) 95) ++ [] = _
              rw [eu, List.append_nil]; rfl
            refine ⟨rfl, some (.int ((i + n : Nat) : Int)), some (.int ((u + 1 : Nat) : Int)), x7, x8, x9, x10, ?_⟩
            rw [e6]
            have e7 : sV (partN S zs i j n ++ [zs.getD (i + n) 0] ++ List.replicate u 95) = V.str (mkS (partN S zs i j n ++ [zs.getD (i + n) 0]) ++ mkS (List.replicate u 95)) := by rw [mkS_app]; rfl
            rw [e7]; rfl
    · rintro σ' H' ⟨rfl, x5, x6, x7, x8, x9, x10, rfl⟩
      have pl := partN_len ok zs i j (j - i)
      refine ⟨_, rfl, _, rfl, mkS zs, rfl, hb, _, _, rfl, rfl, _, rfl, ite2 (fun c => ?_) (fun c => ?_)⟩
      · have c := of_decide_eq_true c
        rw [mkS_len] at c
        refine ⟨_, rfl, mkS (partN S zs i j (j - i)), _, rfl, rfl, by rw [mkS_len]; exact big_ok (by show _ + 1 ≤ _; omega), ?_⟩
        have e1 : pieceN S zs i j = partN S zs i j (j - i) ++ [45] := by
          unfold pieceN partN
          rw [if_pos (by omega)]
        rw [e1] at q
        have e2 : sV (partN S zs i j (j - i) ++ [45]) = V.str (mkS (partN S zs i j (j - i)) ++ mkS [45]) := by rw [mkS_app]; rfl
        rw [e2] at q
        exact q
      · have e1 : pieceN S zs i j = partN S zs i j (j - i) := by
          unfold pieceN partN
          rw [if_neg fun z => c (decide_eq_true (by rw [mkS_len]; omega)), List.append_nil]
        rw [e1] at q
        exact ⟨_, rfl, q⟩
end
end Vf

set_option Elab.async false
set_option linter.all false
set_option maxRecDepth 100000
set_option maxHeartbeats 4000000
namespace Vf
open PySem PySem.Spec PyProof.Rows L2 TL
/-! ### the law's own places, shapes and pieces -/
def PlAt (H : Hp) (x : V) (r : Nat × Nat) : Prop := ∃ b, x = .ref b ∧ H b = some (.tup [natV r.1, natV r.2])
def PlL (H : Hp) (vs : List V) (rs : List (Nat × Nat)) : Prop := vs.length = rs.length ∧ ∀ (i : Nat) (r : Nat × Nat), rs[i]? = some r → ∃ x, vs[i]? = some x ∧ PlAt H x r
theorem PlL.same {H H' : Hp} {vs : List V} {rs : List (Nat × Nat)} (h : PlL H vs rs) (k : ∀ a xs, H a = some (.tup xs) → H' a = some (.tup xs)) : PlL H' vs rs := ⟨h.1, fun i r e => by
  obtain ⟨x, e1, b, e2, e3⟩ := h.2 i r e
  exact ⟨x, e1, b, e2, k _ _ e3⟩⟩
theorem PlL.snoc {H : Hp} {vs : List V} {rs : List (Nat × Nat)} {x : V} {r : Nat × Nat} (h : PlL H vs rs) (hx : PlAt H x r) : PlL H (vs ++ [x]) (rs ++ [r]) := by
  refine ⟨by rw [List.length_append, List.length_append, h.1]; rfl, fun i q e => ?_⟩
  by_cases hi : i < rs.length
  · rw [List.getElem?_append_left hi] at e
    obtain ⟨y, e1, e2⟩ := h.2 i q e
    exact ⟨y, by rw [List.getElem?_append_left (by rw [h.1]; exact hi)]; exact e1, e2⟩
  · rw [List.getElem?_append_right (by omega)] at e
    have e0 : i - rs.length = 0 := by
      have := (List.getElem?_eq_some_iff.mp e).1
      simp at this
      exact this
    rw [e0] at e
    have e : r = q := Option.some.inj e
    subst e
    exact ⟨x, by rw [List.getElem?_append_right (by rw [h.1]; omega), h.1, e0]; rfl, hx⟩
theorem PlL.at {H : Hp} {vs : List V} {rs : List (Nat × Nat)} {i : Nat} {x : V} (h : PlL H vs rs) (hx : vs[i]? = some x) : ∃ r, rs[i]? = some r ∧ PlAt H x r := by
  have hi := (List.getElem?_eq_some_iff.mp hx).1
  have hi2 : i < rs.length := by rw [← h.1]; exact hi
  have g : rs[i]? = some rs[i] := List.getElem?_eq_getElem hi2
  obtain ⟨y, e1, e2⟩ := h.2 i _ g
  rw [hx] at e1
  have := Option.some.inj e1
  subst this
  exact ⟨_, g, e2⟩
/-- places up to a row of the breaks -/
def plM (S : Sty) (zs : List Nat) (n m : Nat) : List (Nat × Nat) := plN S zs n ++ ((look (S.B.take m) (zs.getD (n + 1) 0, zs.getD (n + 2) 0)).map fun p => (n + 2, p)).toList
theorem plM_zero (S : Sty) (zs : List Nat) (n : Nat) : plM S zs n 0 = plN S zs n := List.append_nil _
theorem plM_last (S : Sty) (zs : List Nat) (n : Nat) : plM S zs n S.B.length = plN S zs (n + 1) := by
  unfold plM
  rw [List.take_length, plN_succ]
theorem plM_hit {S : Sty} (ok : StyOk S) {zs : List Nat} {n m : Nat} {r : (Nat × Nat) × Nat} (hr : S.B[m]? = some r) (h : r.1 = (zs.getD (n + 1) 0, zs.getD (n + 2) 0)) : plM S zs n (m + 1) = plM S zs n m ++ [(n + 2, r.2)] := by
  unfold plM
  rw [take_succ' hr, look_snoc (fresh_2 ok.sb hr), if_pos h, look_none fun q hq z => fresh_2 ok.sb hr q hq (z.trans h.symm)]
  show plN S zs n ++ [(n + 2, r.2)] = plN S zs n ++ [] ++ [(n + 2, r.2)]
  rw [List.append_nil]
theorem plM_miss {S : Sty} (ok : StyOk S) {zs : List Nat} {n m : Nat} {r : (Nat × Nat) × Nat} (hr : S.B[m]? = some r) (h : ¬ r.1 = (zs.getD (n + 1) 0, zs.getD (n + 2) 0)) : plM S zs n (m + 1) = plM S zs n m := by
  unfold plM
  rw [take_succ' hr, look_snoc (fresh_2 ok.sb hr), if_neg h]
theorem plM_len (S : Sty) (zs : List Nat) (n m : Nat) : (plM S zs n m).length ≤ n + 1 := by
  unfold plM plN
  rw [List.length_append]
  have h1 := List.length_filterMap_le (fun k => (look S.B (zs.getD (k - 1) 0, zs.getD k 0)).map fun p => (k, p)) (List.range' 2 n)
  rw [List.length_range'] at h1
  have h2 : ((look (S.B.take m) (zs.getD (n + 1) 0, zs.getD (n + 2) 0)).map fun p => (n + 2, p)).toList.length ≤ 1 := by
    cases look (S.B.take m) (zs.getD (n + 1) 0, zs.getD (n + 2) 0) with
    | none => exact Nat.zero_le _
    | some p => exact Nat.le_refl _
  omega
section
variable {P : Program} {w : World} {K : PySem.W.Frag} {mg : Str → Option Value} {base : Heap}
def spLawPlaces : Sp := fun vs H Q _ => ∃ (v : V) (S : Sty) (zs : List Nat), vs = [v, sV zs] ∧ StyV H v S ∧ StyOk S ∧ WdOk zs ∧ ∀ (L : Addr) (ps : List V) H', H L = none → Same H H' → H' L = some (.lst ps) → PlL H' ps (places S zs) → Q (.ref L) H'
theorem ok_law_places (T : Txt K mg) : FnOk P w K mg base CX0 1 T.a_law_places T.d_law_places ["_law_style", "_law_word"] spLawPlaces := by
  refine T.D_law_places.F.ok sc_law_places (fun vs H Q E h => ?_) (fun cdv A outer s H vs Q E hr h => ?_)
  · obtain ⟨v, S, zs, rfl, _⟩ := h
    rfl
  · obtain ⟨v, S, zs, rfl, ⟨a, wv, cv, bv, pv_, rfl, e, _, _, ⟨ba, bs, rfl, eb, lb, hB⟩⟩, ok, wd, q⟩ := h
    refine ⟨_, (pss_cons (ps_set (i := 2) sc_law_places.nd rfl (.inl rfl) (pe_lst pa_nil))
      (pss_cons (ps_for PassesOwn.never rfl (pi_range2 (by rfl) T.n_range (pa_cons pe_int (pa_cons (pe_op op_sub (pe_callB call_len_str (by rfl) T.n_len PySem.boot_len (pa_cons (pv 1) pa_nil)) pe_int) pa_nil))) (pg_name (i := 3) sc_law_places.nd rfl (.inl rfl)) (pss_one (ps_for PassesOwn.never rfl (pi_tup (pe_ix ix_tup (pv 0) pe_int (fun _ _ => rfl))) (pg_tup (by rfl) (pgs_cons (pg_name (i := 4) sc_law_places.nd rfl (.inl rfl)) (pgs_cons (pg_name (i := 5) sc_law_places.nd rfl (.inl rfl)) (pgs_cons (pg_name (i := 6) sc_law_places.nd rfl (.inl rfl)) pgs_nil)))) (pss_one (ps_if (PW.pt (pw_and (pt_cmpR op_eq (pv 4) (pe_ix ix_str (pv 1) (pe_op op_sub (pv 3) pe_int) (fun _ _ => rfl)) (nomark _)) (pw_and1 (pt_cmpR op_eq (pv 5) (pe_ix ix_str (pv 1) (pv 3) (fun _ _ => rfl)) (nomark _))))) (pss_one (ps_expr (pe_bm PySem.F.plainAttrs_list PySem.F.slot_list_append PySem.F.type_list_append mt_append (pv 2) (pa_cons (pe_tup (pa_cons (pv 3) (pa_cons (pv 6) pa_nil))) pa_nil)))) pss_nil)))))
      (pss_one (ps_ret (pv 2))))), ?_⟩
    have hb : (mkS zs).length ≤ sizeLine := by rw [mkS_len]; exact big_ok (by have := wd.len; omega)
    have hl := wd.len
    rw [len_r2] at lb
    refine ⟨by show 0 ≤ sizeLine; decide, fun D nD => ?_⟩
    have k0 : Same H (upd H D (.lst [])) := same_upd (Same.refl H) nD
    refine ⟨_, rfl, mkS zs, rfl, hb, _, _, rfl, rfl, 2, _, rfl, ⟨by decide, by decide, by rw [mkS_len]; omega, by rw [mkS_len]; omega⟩, ?_⟩
    have en : (((mkS zs).length : Int) - 1 - 2).toNat = zs.length - 3 := by rw [mkS_len]; omega
    rw [en]
    refine for_it walk_range (fun n σ' H' => ∃ (ps : List V) (x3 x4 x5 x6 : Option V), σ' = [some (.ref a), some (sV zs), some (.ref D), x3, x4, x5, x6] ∧ Same H H' ∧ H' D = some (.lst ps) ∧ PlL H' ps (plN S zs n)) ⟨[], none, none, none, none, rfl, k0, upd_same, ⟨rfl, fun i r h => by simp [plN] at h⟩⟩ (fun _ _ _ _ _ => trivial) ?_ ?_
    · rintro n x σ' H' H'' hn ⟨ps, x3, x4, x5, x6, rfl, k1, e1, pl⟩ ⟨rfl, hx⟩
      have hx : x = .int ((n + 2 : Nat) : Int) := by
        rw [hx]
        show V.int (2 + (n : Int)) = _
        rw [show 2 + (n : Int) = ((n + 2 : Nat) : Int) by omega]
      subst hx
      have g1 := wd.at (show n + 1 < zs.length by omega)
      have g2 := wd.at (show n + 2 < zs.length by omega)
      have ea : ((n + 2 : Nat) : Int) - 1 = ((n + 1 : Nat) : Int) := by omega
      refine ⟨_, rfl, a, _, _, _, rfl, rfl, SqT.of (k1 _ _ e), rfl, ba, rfl, ⟨bs, SqT.of (k1 _ _ eb)⟩, ?_⟩
      refine for_it (walk_tup (K := K) (a := ba) (xs := bs)) (fun m σ' H' => ∃ (ps : List V) (x4 x5 x6 : Option V), σ' = [some (.ref a), some (sV zs), some (.ref D), some (.int ((n + 2 : Nat) : Int)), x4, x5, x6] ∧ Same H H' ∧ H' D = some (.lst ps) ∧ PlL H' ps (plM S zs n m)) ⟨ps, x4, x5, x6, rfl, k1, e1, by rw [plM_zero]; exact pl⟩ ?_ ?_ ?_
      · rintro i σ' H' _ ⟨_, _, _, _, _, k, _⟩
        exact SqT.of (k _ _ eb)
      · rintro m x σ' H2 H3 hm ⟨ps, x4, x5, x6, rfl, k2, e2, pl⟩ ⟨rfl, hx⟩
        obtain ⟨r, b, hr1, rfl, hb1⟩ := RowsV.row (by rw [len_r2]; exact lb) hB hx
        obtain ⟨r, hr2, rfl⟩ := map_at2 hr1
        refine ⟨b, _, rfl, SqT.of (k2 _ _ hb1), rfl, _, _, rfl, _, _, rfl, _, _, rfl, rfl, ?_⟩
        refine ⟨_, rfl, _, rfl, _, rfl, _, _, rfl, rfl, mkS zs, _, _, rfl, rfl, hb, by rw [ea]; exact atI_nat g1.1, rfl, decide (r.1.1 = zs.getD (n + 1) 0), congrArg V.bl (sgn_eq _ _), ?_⟩
        by_cases c : r.1.1 = zs.getD (n + 1) 0
        · rw [decide_eq_true c]
          refine ⟨_, rfl, _, rfl, _, rfl, mkS zs, _, _, rfl, rfl, hb, atI_nat g2.1, rfl, decide (r.1.2 = zs.getD (n + 2) 0), congrArg V.bl (sgn_eq _ _), ite2 (fun c3 => ?_) (fun c3 => ?_)⟩
          · have c3 := of_decide_eq_true c3
            have lp : ps.length ≤ n + 1 := by rw [pl.1]; exact plM_len S zs n m
            refine ⟨.ref D, rfl, .inl ⟨rfl, _, .inl (.inl e2)⟩, _, rfl, _, rfl, Nat.le_of_lt (lt_s (by show _ < 100000; simp)), fun p np => ?_⟩
            have kr := same_upd (o := .tup [natV (n + 2), natV r.2]) (Same.refl H3) np
            refine ⟨D, _, _, rfl, rfl, kr _ _ e2, lt_s (by omega), ?_⟩
            refine ⟨ps ++ [.ref p], some (sgn r.1.1), some (sgn r.1.2), some (natV r.2), rfl, same_mut (k2.trans kr) nD, upd_same, ?_⟩
            rw [plM_hit ok hr2 (Prod.ext c c3)]
            have kq : ∀ a xs, upd H3 p (.tup [natV (n + 2), natV r.2]) a = some (.tup xs) → upd (upd H3 p (.tup [natV (n + 2), natV r.2])) D (.lst (ps ++ [V.ref p])) a = some (.tup xs) := fun a xs e => by
              have : a ≠ D := fun z => by
                rw [z, kr _ _ e2] at e; cases e
              rw [upd_ne this]; exact e
            exact ((pl.same (same_tup kr)).snoc ⟨p, rfl, upd_same⟩).same kq
          · refine ⟨ps, some (sgn r.1.1), some (sgn r.1.2), some (natV r.2), rfl, k2, e2, ?_⟩
            rw [plM_miss ok hr2 (fun z => c3 (decide_eq_true (by rw [z])))]
            exact pl
        · rw [decide_eq_false c]
          refine ⟨ps, some (sgn r.1.1), some (sgn r.1.2), some (natV r.2), rfl, k2, e2, ?_⟩
          rw [plM_miss ok hr2 (fun z => c (by rw [z]))]
          exact pl
      · rintro σ' H2 ⟨ps, x4, x5, x6, rfl, k2, e2, pl⟩
        rw [lb, plM_last] at pl
        exact ⟨ps, _, x4, x5, x6, rfl, k2, e2, pl⟩
    · rintro σ' H' ⟨ps, x3, x4, x5, x6, rfl, k1, e1, pl⟩
      exact ⟨_, rfl, q D ps H' nD k1 e1 pl⟩
def spLawShape : Sp := fun vs H Q _ => ∃ (v : V) (S : Sty) (zs : List Nat), vs = [v, sV zs] ∧ StyV H v S ∧ StyOk S ∧ WdOk zs ∧ ∀ u H', Same H H' → ShapeV H' u S zs → Q u H'
theorem pieceW_small {S : Sty} (ok : StyOk S) {zs : List Nat} (i j : Nat) (wd : WdOk zs) (hj : j ≤ zs.length) : (pieceN S zs i j).length ≤ 100 := by
  have h := partN_len ok zs i j (j - i)
  have hl := wd.len
  unfold pieceN
  unfold partN at h
  rw [List.length_append]
  by_cases c : j < zs.length
  · rw [if_pos c]; show _ + 1 ≤ _; omega
  · rw [if_neg c]; show _ + 0 ≤ _; omega
theorem ok_law_shape (T : Txt K mg) : FnOk P w K mg base CX0 2 T.a_law_shape T.d_law_shape ["_law_style", "_law_word"] spLawShape := by
  have G_law_places : FnOk P w K mg base CX0 1 T.a_law_places T.d_law_places ["_law_style", "_law_word"] spLawPlaces := ok_law_places T
  have G_law_piece : FnOk P w K mg base CX0 1 T.a_law_piece T.d_law_piece ["_law_style", "_law_word", "_law_first", "_law_behind"] spLawPiece := ok_law_piece T
  refine T.D_law_shape.F.ok sc_law_shape (fun vs H Q E h => ?_) (fun cdv A outer s H vs Q E hr h => ?_)
  · obtain ⟨v, S, zs, rfl, _⟩ := h
    rfl
  · obtain ⟨v, S, zs, rfl, hv, ok, wd, q⟩ := h
    refine ⟨_, (pss_cons (ps_set (i := 2) sc_law_shape.nd rfl (.inl rfl) (pe_lst pa_nil))
      (pss_cons (ps_for PassesOwn.never rfl (pi_list (pe_call G_law_places (hr.mono (by decide)) (by rfl) T.D_law_places.G T.D_law_places.F.kp T.D_law_places.B .nil pass0 (pa_cons (pv 0) (pa_cons (pv 1) pa_nil)))) (pg_tup (by rfl) (pgs_cons (pg_name (i := 3) sc_law_shape.nd rfl (.inl rfl)) (pgs_cons (pg_name (i := 4) sc_law_shape.nd rfl (.inl rfl)) pgs_nil))) (pss_cons (ps_set (i := 5) sc_law_shape.nd rfl (.inl rfl) (pe_callB call_len_str (by rfl) T.n_len PySem.boot_len (pa_cons (pe_call G_law_piece (hr.mono (by decide)) (by rfl) T.D_law_piece.G T.D_law_piece.F.kp T.D_law_piece.B .nil pass0 (pa_cons (pv 0) (pa_cons (pv 1) (pa_cons pe_int (pa_cons (pv 3) pa_nil))))) pa_nil)))
      (pss_one (ps_expr (pe_bm PySem.F.plainAttrs_list PySem.F.slot_list_append PySem.F.type_list_append mt_append (pv 2) (pa_cons (pe_tup (pa_cons (pv 5) (pa_cons (pe_callB call_len_str (by rfl) T.n_len PySem.boot_len (pa_cons (pe_call G_law_piece (hr.mono (by decide)) (by rfl) T.D_law_piece.G T.D_law_piece.F.kp T.D_law_piece.B .nil pass0 (pa_cons (pv 0) (pa_cons (pv 1) (pa_cons (pv 3) (pa_cons (pe_callB call_len_str (by rfl) T.n_len PySem.boot_len (pa_cons (pv 1) pa_nil)) pa_nil))))) pa_nil)) (pa_cons (pv 4) pa_nil)))) pa_nil))))))
      (pss_one (ps_ret (pe_tup (pa_cons (pe_callB call_len_str (by rfl) T.n_len PySem.boot_len (pa_cons (pe_call G_law_piece (hr.mono (by decide)) (by rfl) T.D_law_piece.G T.D_law_piece.F.kp T.D_law_piece.B .nil pass0 (pa_cons (pv 0) (pa_cons (pv 1) (pa_cons pe_int (pa_cons (pe_callB call_len_str (by rfl) T.n_len PySem.boot_len (pa_cons (pv 1) pa_nil)) pa_nil))))) pa_nil)) (pa_cons (pe_callTy call_tuple_of (by rfl) T.n_tuple (by decide +kernel) (pa_cons (pv 2) pa_nil)) pa_nil))))))), ?_⟩
    have hb : (mkS zs).length ≤ sizeLine := by rw [mkS_len]; exact big_ok (by have := wd.len; omega)
    have hl := wd.len
    have hp : ∀ i j, j ≤ zs.length → (mkS (pieceN S zs i j)).length ≤ sizeLine := fun i j hj => by rw [mkS_len]; exact big_ok (by have := pieceW_small ok i j wd hj; omega)
    have hpw : ∀ i j, (((mkS (pieceN S zs i j)).length : Nat) : Int) = ((pieceW S zs i j : Nat) : Int) := fun i j => by rw [mkS_len, pieceN_len ok]
    refine ⟨by show 0 ≤ sizeLine; decide, fun D nD => ?_⟩
    have k0 : Same H (upd H D (.lst [])) := same_upd (Same.refl H) nD
    refine ⟨_, rfl, _, rfl, v, S, zs, rfl, hv.mono (same_tup k0), ok, wd, fun L ps H1 nL k1 eL pl => ?_⟩
    have hLD : L ≠ D := fun z => by rw [z, upd_same] at nL; cases nL
    have k1' := k0.trans k1
    refine ⟨L, rfl, ⟨ps, SqL.of eL⟩, ?_⟩
    refine for_it (walk_list (K := K) (a := L) (xs := ps)) (fun n σ' H' => ∃ (vs : List V) (x3 x4 x5 : Option V), σ' = [some v, some (sV zs), some (.ref D), x3, x4, x5] ∧ Same H H' ∧ H' L = some (.lst ps) ∧ PlL H' ps (places S zs) ∧ H' D = some (.lst vs) ∧ PartL H' S zs vs ((places S zs).take n))
      ⟨[], none, none, none, rfl, k1', eL, pl, k1 _ _ upd_same, ⟨rfl, fun i r h => by simp at h⟩⟩ ?_ ?_ ?_
    · rintro i σ' H' _ ⟨_, _, _, _, _, _, eL, _⟩
      exact SqL.of eL
    · rintro n x σ' H2 H3 hn ⟨vs, x3, x4, x5, rfl, k2, eL, pl, eD, pt⟩ ⟨rfl, hx⟩
      obtain ⟨r, hr, b, rfl, eb⟩ := pl.at hx
      have hrm := List.mem_of_getElem? hr
      have bd := places_bd hrm
      refine ⟨b, _, rfl, SqT.of eb, rfl, _, _, rfl, _, _, rfl, rfl, ?_⟩
      refine ⟨_, rfl, _, rfl, _, rfl, v, S, zs, 0, r.1, rfl, hv.mono (same_tup k2), ok, wd, Nat.zero_le _, by omega, _, rfl, hp 0 r.1 (by omega), ?_⟩
      refine ⟨.ref D, rfl, .inl ⟨rfl, _, .inl (.inl eD)⟩, _, rfl, _, rfl, _, rfl, _, rfl, _, rfl, mkS zs, rfl, hb, v, S, zs, r.1, zs.length, by rw [mkS_len]; rfl, hv.mono (same_tup k2), ok, wd, by omega, Nat.le_refl _, _, rfl, hp r.1 zs.length (Nat.le_refl _), _, rfl, Nat.le_of_lt (lt_s (by show _ < 100000; simp)), fun p np => ?_⟩
      rw [hpw, hpw]
      have kr := same_upd (o := .tup [natV (pieceW S zs 0 r.1), natV (pieceW S zs r.1 zs.length), natV r.2]) (Same.refl H3) np
      have lv : vs.length ≤ 16 := by
        rw [pt.1, List.length_take]
        have := places_len S zs
        omega
      refine ⟨D, _, _, rfl, rfl, kr _ _ eD, lt_s (by omega), ?_⟩
      have kq : ∀ a xs, upd H3 p (.tup [natV (pieceW S zs 0 r.1), natV (pieceW S zs r.1 zs.length), natV r.2]) a = some (.tup xs) → upd (upd H3 p (.tup [natV (pieceW S zs 0 r.1), natV (pieceW S zs r.1 zs.length), natV r.2])) D (.lst (vs ++ [V.ref p])) a = some (.tup xs) := fun a xs e => by
        have : a ≠ D := fun z => by
          rw [z, kr _ _ eD] at e; cases e
        rw [upd_ne this]; exact e
      refine ⟨vs ++ [.ref p], some (natV r.1), some (natV r.2), some (natV (pieceW S zs 0 r.1)), ?_, same_mut (k2.trans kr) nD, by rw [upd_ne hLD]; exact kr _ _ eL, (pl.same (same_tup kr)).same kq, upd_same, ?_⟩
      · rfl
      · rw [take_succ' hr]
        exact ((pt.same (same_tup kr)).snoc ⟨p, rfl, upd_same⟩).same kq
    · rintro σ' H2 ⟨vs, x3, x4, x5, rfl, k2, eL, pl, eD, pt⟩
      rw [pl.1, List.take_length] at pt
      refine ⟨_, rfl, _, rfl, _, rfl, mkS zs, rfl, hb, v, S, zs, 0, zs.length, by rw [mkS_len]; rfl, hv.mono (same_tup k2), ok, wd, Nat.zero_le _, Nat.le_refl _, _, rfl, hp 0 _ (Nat.le_refl _), ?_⟩
      rw [hpw]
      refine ⟨_, rfl, D, vs, rfl, .inl ⟨SqL.of eD, fun p np => ?_⟩⟩
      have kp := same_upd (o := .tup vs) (Same.refl H2) np
      refine ⟨by show 2 ≤ sizeLine; decide, fun r nr => ?_⟩
      have kr := same_upd (o := .tup [natV (pieceW S zs 0 zs.length), V.ref p]) (Same.refl _) nr
      exact q _ _ (k2.trans (kp.trans kr)) ⟨r, p, vs, rfl, upd_same, kr _ _ upd_same, pt.same (same_tup (kp.trans kr))⟩
end
end Vf

set_option Elab.async false
set_option linter.all false
set_option maxRecDepth 100000
set_option maxHeartbeats 4000000
namespace Vf
open PySem PySem.Spec PyProof.Rows L2
/-! ### set comprehensions of ints -/
/-- y is put into the set at D that is being made -/
def AddI (w : World) (D : Addr) (y : V) (H : Hp) (N : Hp → Prop) : Prop :=
  ∃ (k : Int) (S : Int → Bool) (n : Nat), y = .int k ∧ H D = some (SetO w D S n) ∧ n + 1 < scanBound ∧ N (upd H D (SetO w D (fun j => S j || decide (j = k)) (if S k = true then n else n + 1)))
theorem add_runs {Y : Cx} {ps : List (Addr × Obj)} {τ : L2.St} {H : Hp} {t : Shared} {D : Addr} {y : V} {u : Value} {N : Hp → Prop} {F : Value → Shared → Prop} {R : Value → Shared → Prop} (I : Inv Y ps τ H t) (ky : RelV y u) (h : AddI Y.w D y H N)
    (go : ∀ t' H', Inv Y ps τ H' t' → N H' → R .none t') :
    wpAny (model Y.prog Y.w) Y.A (call (.builtin "set.add") [.ref D, u]) R F t := by
  obtain ⟨k, S, n, ey, eD, room, hN⟩ := h
  subst ey
  obtain ⟨tk, rfl⟩ := ky
  refine setR_add (setO_get I eD) room fun h' same r => ?_
  have he : ∃ x, h'.get? D = some x := by
    obtain ⟨o, es, ep, tt, ho, rest⟩ := id r
    exact ⟨o, ho⟩
  exact go _ _ (I.write (e := D) (t' := t.toks + 1) (by rw [eD]; trivial) (.inl rfl) (fun b x hb hx => (same.2 b hb).trans hx) he (setO_new r)) hN
section
variable {X : Cx}
/-- {e for target in iter if ..}, e an int: D the new set -/
def tScI (w : World) (wi : TI) (g : TG) (tt : TT) (tk : TE) (own : List Nat) : TE := fun σ H Q => wi σ H fun J Ha => ∀ D, Ha D = none →
  ∃ W : Nat → Nat → Hp → Prop, (∃ m, W 0 m (upd Ha D (SetO w D (fun _ => false) 0))) ∧ ∀ i m Hb, W i m Hb → (J.stop i Hb ∧ Q (.ref D) Hb) ∨
    (J.go i Hb ∧ ∃ N : Hp → Prop, (∀ Hc, N Hc → ∃ m', m' < m ∧ W (i + 1) m' Hc) ∧ ∀ x Hc, J.yld i Hb x Hc →
      g x (wipe σ own) Hc fun σ2 H2 => wipe σ2 own = wipe σ own ∧ tt σ2 H2 fun b H3 => if b = true then tk σ2 H3 fun y H4 => AddI w D y H4 N else N H3)
/-- the block's promise of each part, wherever the block's own room comes to stand -/
abbrev InBlk (X : Cx) (scope : Scope) (R : Cx → Prop) : Prop := ∀ (s : Shared) (H : Hp) (C : Addr) (cl : List (Str × Addr)) (fp : List Addr), R (X.blk s H scope (compEnvC scope cl C X.env) fp)
theorem scI_core {pins : List (Addr × Obj)} {s : Shared} {σ : L2.St} {H : Hp} {Q : VK} {kx tg iter : Expr} {ifs : List Expr} {scope : Scope} {own : List (Str × Nat)} {pos pos' : Pos} {wi : TI} {g : TG} {tt : TT} {tk : TE} {use : Option (Value → Sem Unit)} {Qf : Value → Shared → Prop}
    (calm : X.calm = true) (nd : X.N.Nodup) (I : Inv X pins σ H s) (pi : PI X tg iter wi) (bk : BlkOk X.N X.env.scope scope own)
    (pg : InBlk X scope fun Y => PG Y tg g) (pt : InBlk X scope fun Y => PTs Y ifs tt) (pk : InBlk X scope fun Y => PE Y kx tk) (fold : ∀ x, foldedSetIterable iter X.env x = pure x)
    (h : tScI X.w wi g tt tk (own.map (·.2)) σ H Q)
    (leave : ∀ (D C : Addr) t ms H', Inv X pins σ H' t → Q (.ref D) H' → t.heap.Ns C ms → FpOk X pins H' C → compPost (model X.prog X.w) X.A X.xe use Qf (.ref D) C (.ok .next) t) :
    wpAny (model X.prog X.w) X.A (comprehension (.SetComp kx [⟨tg, iter, ifs, 0⟩] scope pos) scope X.env pos' (newSet (.type "set")) false (eval iter X.env) use) Qf X.xe s := by
  have has : ∀ y ∈ scope.names, y.2 = .free → ∃ c, X.env.cells.lookup y.1 = some c := by
    intro y hy e
    exact (bk.free y hy e).elim (fun k => I.ok.has _ (.inl k)) (fun k => I.ok.has _ (.inr k))
  refine wpAny_comprehension_free (use := use) rfl fold (closure_ok has) bk.kind (fun y hy e => (bk.uniq y hy).trans (congrArg some e)) ?_
  refine thn (pi.run pins s σ H _ I h) fun v0 s1 w1 => thn w1 fun v1 s2 w2 => ?_
  obtain ⟨it, fp, tn, J, Ha, rfl, Ia, T, st, fs, q⟩ := w2
  refine PpSet.newSet_ok (newEnv_comp ?_)
  -- the new set stands at D
  obtain ⟨D, eD⟩ : ∃ D, D = s2.heap.objs.size := ⟨_, rfl⟩
  obtain ⟨W, ⟨m0, w0⟩, turn⟩ := q D (Ia.hok.fresh (Nat.le_of_eq eD.symm))
  obtain ⟨s3, es3⟩ : ∃ s3 : Shared, s3 = { s2 with heap := s2.heap.push { cls := .type "set", dict := none, data := .set #[] 0 (.fresh 0 0 (!X.w.params.followText "set-order")) } } := ⟨_, rfl⟩
  have eh : s3.heap = s2.heap.push { cls := .type "set", dict := none, data := .set #[] 0 (.fresh 0 0 (!X.w.params.followText "set-order")) } := by rw [es3]
  rw [← es3, ← eD]
  have Ib : Inv X pins σ (upd Ha D (SetO X.w D (fun _ => false) 0)) s3 := by
    rw [es3, eD]
    exact Ia.laid (t' := s2.toks) (fun b o e => Heap.get?_push_of_some _ e) (Nat.le_refl _) (setO_new (setR_fresh X.w))
  have lt : ∀ b ∈ fp, b < D := fun b hb => by
    have ⟨o, e, _⟩ := T.obj _ _ st b hb
    rw [eD]; exact Heap.lt_size e
  have fd : ∀ b ∈ fp, (upd Ha D (SetO X.w D (fun _ => false) 0)) b = none := fun b hb => (upd_ne (Nat.ne_of_lt (lt b hb))).trans (fs b hb).1
  have f3 : ∀ b ∈ fp, FpOk X pins (upd Ha D (SetO X.w D (fun _ => false) 0)) b ∧ b < s3.heap.objs.size := fun b hb =>
    ⟨⟨fd b hb, (fs b hb).2⟩, by rw [eh, Heap.size_push, ← eD]; exact Nat.lt_succ_of_lt (lt b hb)⟩
  have st3 : tn 0 s3.heap := T.keep _ _ _ st fun b _ o e => by rw [eh]; exact Heap.get?_push_of_some _ e
  have Ic := block_start Ib bk nd f3
  have G := pg s3 (upd Ha D (SetO X.w D (fun _ => false) 0)) s3.heap.objs.size (cellsFrom (s3.heap.objs.size + 1) scope.names (cloFrom X.env.cells scope.names [])) fp
  have S := pt s3 (upd Ha D (SetO X.w D (fun _ => false) 0)) s3.heap.objs.size (cellsFrom (s3.heap.objs.size + 1) scope.names (cloFrom X.env.cells scope.names [])) fp
  have Kx := pk s3 (upd Ha D (SetO X.w D (fun _ => false) 0)) s3.heap.objs.size (cellsFrom (s3.heap.objs.size + 1) scope.names (cloFrom X.env.cells scope.names [])) fp
  obtain ⟨ce, ece⟩ : ∃ ce, ce = compEnvC scope (cellsFrom (s3.heap.objs.size + 1) scope.names (cloFrom X.env.cells scope.names [])) s3.heap.objs.size X.env := ⟨_, rfl⟩
  have cl : ce.locals = s3.heap.objs.size := by rw [ece]; rfl
  obtain ⟨s4, es4⟩ : ∃ s4 : Shared, s4 = { s3 with heap := pushCells (s3.heap.push { cls := .type "dict", data := .dict #[] }) scope.names } := ⟨_, rfl⟩
  rw [← ece] at Ic G S Kx
  rw [← es4] at Ic
  have st4 : tn 0 s4.heap := T.keep _ _ _ st3 fun b _ o e => by rw [es4]; exact pushCells_keeps _ _ _ _ (Heap.get?_push_of_some _ e)
  have pinned : ∀ {τ : L2.St} {H' : Hp} {t : Shared}, Inv (X.blk s3 (upd Ha D (SetO X.w D (fun _ => false) 0)) scope ce fp) [] τ H' t → (∀ b ∈ fp, H' b = none) → ∀ b ∈ fp, FpOk (X.blk s3 (upd Ha D (SetO X.w D (fun _ => false) 0)) scope ce fp) [] H' b := by
    intro τ H' t I' free b hb
    have e1 := I'.ok.exf b hb
    exact ⟨free b hb, e1.1, I'.ok.exfs b hb, .inl hb, fun x c e => e1.2 x c e, fun p hp => by cases hp⟩
  -- what the loop keeps at its turn number i
  let Keep : Nat → Shared → Prop := fun n t => ∃ i H', Inv (X.blk s3 (upd Ha D (SetO X.w D (fun _ => false) 0)) scope ce fp) [] (wipe σ (own.map (·.2))) H' t ∧ tn i t.heap ∧ (∀ b ∈ fp, H' b = none) ∧ W i n H'
  have runs : codeAny (model X.prog X.w) X.A (.compLoop (.SetComp kx [⟨tg, iter, ifs, 0⟩] scope pos) 0 (.ref it) (.ref D) ce)
      (compPost (model X.prog X.w) X.A X.xe use Qf (.ref D) s3.heap.objs.size) s4 := by
    refine PpSet.compLoopS_any Keep ?_ m0 ⟨0, _, Ic, st4, fd, w0⟩
    intro n t1 ⟨i, Hb, I1, z1, free, w1⟩
    rcases turn i n Hb w1 with ⟨stop, hQ⟩ | ⟨go, N, less, step⟩
    · -- no further thing: back in the def
      refine thnF (T.done (X.blk s3 (upd Ha D (SetO X.w D (fun _ => false) 0)) scope ce fp) rfl rfl rfl calm i [] t1 _ Hb (fun _ _ => False) I1 (pinned I1 free) z1 stop) fun r t2 ⟨er, I2⟩ => ?_
      subst er
      have Iz : Inv X pins σ Hb t2 := Ib.call' (ch := fp) I2.os I2.base I2.hok I2.bare fun b hb =>
        have f := (f3 b hb).1.2
        ⟨f.2.2.1, f.1, f.2.2.2.1, f.2.2.2.2⟩
      obtain ⟨ms, hns, _⟩ := I2.loc
      have hns : t2.heap.Ns ce.locals ms := hns
      have nl : Hb ce.locals = none := I2.free
      rw [cl] at hns nl
      exact leave D _ t2 ms Hb Iz hQ hns (Ib.fpOk (Nat.le_refl _) nl)
    · refine thnF (T.item (X.blk s3 (upd Ha D (SetO X.w D (fun _ => false) 0)) scope ce fp) rfl rfl rfl calm i [] t1 _ Hb (fun _ _ => False) I1 (pinned I1 free) z1 go) fun r t2 ⟨u, er, a2⟩ => ?_
      subst er
      refine thnF a2 fun _ t3 ⟨x, Hc, I3, rx, y3, z3, free3⟩ => ?_
      refine thnF (G.run _ t3 _ Hc x u _ (I3.pinned (pinned I3 free3) (T.obj _ _ z3)) rx (step x Hc y3)) fun _ t4 ⟨σ2, H2, I4, ew, q4⟩ => ?_
      refine thnF (S.run _ t4 σ2 H2 _ I4 q4) fun b t5 ⟨H3, I5, q5⟩ => ?_
      -- how a turn ends, in the room of the block
      have close : ∀ {t : Shared} {H' : Hp}, Inv (X.blk s3 (upd Ha D (SetO X.w D (fun _ => false) 0)) scope ce fp) ([] ++ pinsAt fp t3.heap) σ2 H' t → N H' → ∃ m, m < n ∧ Keep m t := by
        intro t H' I' hN
        obtain ⟨m', hm, w'⟩ := less H' hN
        have still : ∀ b ∈ fp, ∀ o, t3.heap.get? b = some o → t.heap.get? b = some o ∧ H' b = none := by
          intro b hb o e
          have p := I'.pin (b, o) (List.mem_append_right _ (List.mem_append_right _ (mem_pinsAt hb e)))
          exact ⟨p.1, p.2.1⟩
        have len : (wipe σ (own.map (·.2))).length = σ2.length := by rw [← ew]; exact wipe_length _ _
        refine ⟨m', hm, i + 1, H', (I'.unpinned (pins := [])).weak len fun j v e => ?_, T.keep _ _ _ z3 fun b hb o e => (still b hb o e).1, fun b hb => ?_, w'⟩
        · rw [← ew] at e; exact (wipe_some e).1
        · have ⟨o, e, _⟩ := T.obj _ _ z3 b hb
          exact (still b hb o e).2
      cases b with
      | false => exact close I5 q5
      | true =>
        refine thnF (Kx.run _ t5 σ2 H3 _ I5 q5) fun ku t6 ⟨y, H4, I6, ry, q6⟩ => ?_
        exact add_runs (Y := X.blk s3 (upd Ha D (SetO X.w D (fun _ => false) 0)) scope ce fp) I6 ry q6 fun t8 H6 I8 n8 => close I8 n8
  have whole := PpSet.codeAny_compStart_set runs (T.self X.A 0 _ _ _ st4 runs)
  rw [ece, es4] at whole
  exact whole
/-- as a value -/
theorem pe_scI {kx tg iter : Expr} {ifs : List Expr} {scope : Scope} {own : List (Str × Nat)} {pos : Pos} {wi : TI} {g : TG} {tt : TT} {tk : TE} (calm : X.calm = true) (nd : X.N.Nodup) (pi : PI X tg iter wi) (bk : BlkOk X.N X.env.scope scope own)
    (pg : InBlk X scope fun Y => PG Y tg g) (pt : InBlk X scope fun Y => PTs Y ifs tt) (pk : InBlk X scope fun Y => PE Y kx tk) (fold : ∀ x, foldedSetIterable iter X.env x = pure x := by intro _; rfl) :
    PE X (.SetComp kx [⟨tg, iter, ifs, 0⟩] scope pos) (tScI X.w wi g tt tk (own.map (·.2))) := by
  constructor
  intro pins s σ H Q I h
  rw [PpSet.eval_SetComp]
  refine scI_core calm nd I pi bk pg pt pk fold h fun D C t ms H' I' hQ hns f => ⟨ms, hns, fun h2 sb => ?_⟩
  exact ⟨.ref D, H', I'.turned (t' := t.toks) (fun b o hb e => (sb.2 b hb).trans e) f.1 f.2.1 f.2.2.2.1 f.2.2.2.2.1 f.2.2.2.2.2, rfl, hQ⟩
end
/-- over any walk: Pv by the turn and the heap -/
theorem scI_it {ww : World} {J : It} {n : Nat} {G : Hp → Prop} {Y : Nat → Hp → V → Hp → Prop} (w : Walk J n G Y) {g : TG} {tt : TT} {tk : TE} {own : List Nat} {σ : L2.St} {Ha : Hp} {D : Addr} {Qd : Hp → Prop} (Pv : Nat → Hp → Prop) (start : Pv 0 (upd Ha D (SetO ww D (fun _ => false) 0))) (stays : ∀ i H, i ≤ n → Pv i H → G H)
    (turn : ∀ i x H H', i < n → Pv i H → Y i H x H' → g x (wipe σ own) H' fun σ2 H2 => wipe σ2 own = wipe σ own ∧ tt σ2 H2 fun b H3 => if b = true then tk σ2 H3 fun y H4 => AddI ww D y H4 (Pv (i + 1)) else Pv (i + 1) H3)
    (after : ∀ H, Pv n H → Qd H) :
    ∃ W : Nat → Nat → Hp → Prop, (∃ m, W 0 m (upd Ha D (SetO ww D (fun _ => false) 0))) ∧ ∀ i m Hb, W i m Hb → (J.stop i Hb ∧ Qd Hb) ∨
      (J.go i Hb ∧ ∃ N : Hp → Prop, (∀ Hc, N Hc → ∃ m', m' < m ∧ W (i + 1) m' Hc) ∧ ∀ x Hc, J.yld i Hb x Hc →
        g x (wipe σ own) Hc fun σ2 H2 => wipe σ2 own = wipe σ own ∧ tt σ2 H2 fun b H3 => if b = true then tk σ2 H3 fun y H4 => AddI ww D y H4 N else N H3) := by
  refine ⟨fun i m H => m + i = n ∧ Pv i H, ⟨n, by omega, start⟩, fun i m Hb h => ?_⟩
  have ⟨e, p⟩ := h
  have ok := stays i Hb (by omega) p
  rcases Nat.lt_or_ge i n with lt | ge
  · refine .inr ⟨w.goes i Hb lt ok, Pv (i + 1), fun Hc q => ⟨m - 1, by omega, by omega, q⟩, fun x Hc y => turn i x Hb Hc lt p (w.yields i Hb x Hc lt ok y)⟩
  · obtain rfl : i = n := by omega
    exact .inl ⟨w.stops Hb ok, after Hb p⟩
end Vf

set_option Elab.async false
set_option linter.all false
set_option maxRecDepth 100000
set_option maxHeartbeats 4000000
namespace Vf
open PySem PySem.Spec PyProof.Rows L2 TL
/-! ### data made of tuples -/
/-- all tuples stand -/
def TK (H H' : Hp) : Prop := ∀ a xs, H a = some (.tup xs) → H' a = some (.tup xs)
theorem TK.refl (H : Hp) : TK H H := fun _ _ h => h
theorem TK.trans {H H1 H2 : Hp} (a : TK H H1) (b : TK H1 H2) : TK H H2 := fun x xs h => b x xs (a x xs h)
theorem TK.kp {d l : Addr} {H H' : Hp} (D : DI d l H) (k : Kp d H H') : TK H H' := kpTup D k
theorem TK.same {H H' : Hp} (k : Same H H') : TK H H' := fun a xs e => k _ _ e
theorem TK.new {H H' : Hp} {p : Addr} {o : HO} (k : TK H H') (hp : H' p = none) : TK H (upd H' p o) := fun a xs e => by
  have e := k _ _ e
  rw [upd_ne (ne_of_none e hp)]; exact e
theorem TK.mut {H H' : Hp} {p : Addr} {us : List V} {o : HO} (k : TK H H') (hp : H' p = some (.lst us)) : TK H (upd H' p o) := fun a xs e => by
  have e := k _ _ e
  have n : a ≠ p := fun z => by rw [z, hp] at e; cases e
  rw [upd_ne n]; exact e
/-- a relation of things that holds on while all tuples stand -/
structure Mn {α : Type} (R : Hp → V → α → Prop) : Prop where
  to : ∀ {H H' : Hp} {v : V} {x : α}, R H v x → TK H H' → R H' v x
def natR : Hp → V → Nat → Prop := fun _ v n => v = nV n
theorem nV_inj {a b : Nat} (h : nV a = nV b) : a = b := by
  have := V.int.inj h
  omega
theorem natR_mn : Mn natR := ⟨fun h _ => h⟩
def TupR {α : Type} (R : Hp → V → α → Prop) (H : Hp) (v : V) (xs : List α) : Prop := ∃ a us, v = .ref a ∧ H a = some (.tup us) ∧ LV (R H) us xs
theorem TupR.mn {α : Type} {R : Hp → V → α → Prop} (m : Mn R) : Mn (TupR R) := ⟨fun h k => by
  obtain ⟨a, us, e, h1, h2⟩ := h
  exact ⟨a, us, e, k _ _ h1, h2.mono fun _ _ z => m.to z k⟩⟩
def PairR {α β : Type} (R : Hp → V → α → Prop) (S : Hp → V → β → Prop) (H : Hp) (v : V) (p : α × β) : Prop := ∃ a u w, v = .ref a ∧ H a = some (.tup [u, w]) ∧ R H u p.1 ∧ S H w p.2
theorem PairR.mn {α β : Type} {R : Hp → V → α → Prop} {S : Hp → V → β → Prop} (m : Mn R) (n : Mn S) : Mn (PairR R S) := ⟨fun h k => by
  obtain ⟨a, u, w, e, h1, h2, h3⟩ := h
  exact ⟨a, u, w, e, k _ _ h1, m.to h2 k, n.to h3 k⟩⟩
theorem LV.nats : ∀ {us : List V} {xs : List Nat}, LV (natR H) us xs → us = xs.map nV := by
  intro us xs h
  refine List.ext_getElem? fun i => ?_
  rw [List.getElem?_map]
  by_cases hi : i < xs.length
  · obtain ⟨x, e, r⟩ := h.2 i _ (List.getElem?_eq_getElem hi)
    rw [e, List.getElem?_eq_getElem hi, show x = nV xs[i] from r]; rfl
  · rw [List.getElem?_eq_none (by rw [h.1]; omega), List.getElem?_eq_none (by omega)]; rfl
theorem LV.of_nats (H : Hp) (xs : List Nat) : LV (natR H) (xs.map nV) xs := ⟨List.length_map _, fun i r e => ⟨nV r, by rw [List.getElem?_map, e]; rfl, rfl⟩⟩
/-- a tuple of numbers -/
def NsR : Hp → V → List Nat → Prop := fun H v xs => ∃ a, v = .ref a ∧ H a = some (.tup (xs.map nV))
theorem NsR.mn : Mn NsR := ⟨fun h k => by
  obtain ⟨a, e, h⟩ := h
  exact ⟨a, e, k _ _ h⟩⟩
theorem NsR.of {H : Hp} {v : V} {xs : List Nat} (h : TupR natR H v xs) : NsR H v xs := by
  obtain ⟨a, us, e, h1, h2⟩ := h
  rw [h2.nats] at h1
  exact ⟨a, e, h1⟩
theorem NsR.new {H : Hp} {p : Addr} {xs : List Nat} : NsR (upd H p (.tup (xs.map nV))) (.ref p) xs := ⟨p, rfl, upd_same⟩
theorem LV.get {α : Type} {R : V → α → Prop} {vs : List V} {rs : List α} {i : Nat} (h : LV R vs rs) (hi : i < rs.length) : ∃ x, vs[i]? = some x ∧ R x rs[i] := h.2 i _ (List.getElem?_eq_getElem hi)
theorem LV.get0 {α : Type} {R : V → α → Prop} {vs : List V} {rs : List α} {i : Nat} (d : α) (h : LV R vs rs) (hi : i < rs.length) : ∃ x, vs[i]? = some x ∧ R x (rs.getD i d) := by
  obtain ⟨x, e, r⟩ := h.get hi
  refine ⟨x, e, ?_⟩
  rw [List.getD_eq_getElem?_getD, List.getElem?_eq_getElem hi]; exact r
theorem LV.app2 {α : Type} {R : V → α → Prop} {us vs : List V} {rs ss : List α} (h : LV R us rs) (k : LV R vs ss) : LV R (us ++ vs) (rs ++ ss) := by
  refine ⟨by rw [List.length_append, List.length_append, h.1, k.1], fun i r e => ?_⟩
  by_cases hi : i < rs.length
  · rw [List.getElem?_append_left hi] at e
    obtain ⟨y, e1, e2⟩ := h.2 i r e
    exact ⟨y, by rw [List.getElem?_append_left (by rw [h.1]; exact hi)]; exact e1, e2⟩
  · rw [List.getElem?_append_right (by omega)] at e
    obtain ⟨y, e1, e2⟩ := k.2 _ r e
    exact ⟨y, by rw [List.getElem?_append_right (by rw [h.1]; omega), h.1]; exact e1, e2⟩
theorem nat_at {xs : List Nat} {i : Nat} (h : i < xs.length) : (xs.map nV)[i]? = some (nV (xs.getD i 0)) := by
  rw [List.getElem?_map, List.getD_eq_getElem?_getD, List.getElem?_eq_getElem h]; rfl
theorem getD_mem {α : Type} {xs : List α} {i : Nat} {d : α} (h : i < xs.length) : xs.getD i d ∈ xs := by
  rw [List.getD_eq_getElem?_getD, List.getElem?_eq_getElem h]; exact List.getElem_mem h
theorem getD_of {α : Type} {xs : List α} {i : Nat} {x d : α} (h : xs[i]? = some x) : xs.getD i d = x := by
  rw [List.getD_eq_getElem?_getD, h]; rfl
theorem take_one {α : Type} {xs : List α} {i : Nat} {x : α} (h : xs[i]? = some x) : xs.take (i + 1) = xs.take i ++ [x] := by
  rw [List.take_add_one, h]; rfl
theorem take_oneD {α : Type} {xs : List α} {i : Nat} (d : α) (h : i < xs.length) : xs.take (i + 1) = xs.take i ++ [xs.getD i d] := by
  rw [take_one (List.getElem?_eq_getElem h), List.getD_eq_getElem?_getD, List.getElem?_eq_getElem h]; rfl
theorem mem_at {α : Type} {xs : List α} {x : α} (h : x ∈ xs) : ∃ i, i < xs.length ∧ xs[i]? = some x := by
  obtain ⟨i, hi, e⟩ := List.mem_iff_getElem.mp h
  exact ⟨i, hi, by rw [List.getElem?_eq_getElem hi, e]⟩
theorem flat_nats (xs : List Nat) : (xs.map nV).all flatV = true := List.all_eq_true.mpr fun v hv => by
  obtain ⟨x, _, rfl⟩ := List.mem_map.mp hv
  rfl
theorem eqV_nat (x y : Nat) : eqV (nV y) (nV x) = decide (y = x) := by
  show eqV (.int (y : Int)) (.int (x : Int)) = _
  by_cases h : y = x
  · subst h; rw [decide_eq_true rfl]; simp [eqV]
  · rw [decide_eq_false h]
    have : ¬ (y : Int) = (x : Int) := by omega
    simp [eqV, this]
theorem inV_nats (x : Nat) (xs : List Nat) : inV (nV x) (xs.map nV) = decide (x ∈ xs) := by
  unfold inV
  rw [List.any_map]
  by_cases h : x ∈ xs
  · rw [decide_eq_true h]
    refine List.any_eq_true.mpr ⟨x, h, ?_⟩
    show eqV (nV x) (nV x) = true
    rw [eqV_nat]; exact decide_eq_true rfl
  · rw [decide_eq_false h]
    refine List.any_eq_false.mpr fun y hy => ?_
    show ¬ eqV (nV y) (nV x) = true
    rw [eqV_nat]
    exact fun z => h (of_decide_eq_true z ▸ hy)
/-! ### what is met, each thing once -/
def met : List Nat → List Nat := fun l => l.foldl (fun acc x => if x ∈ acc then acc else acc ++ [x]) []
theorem met_snoc (l : List Nat) (x : Nat) : met (l ++ [x]) = if x ∈ met l then met l else met l ++ [x] := by
  unfold met; rw [List.foldl_append]; rfl
theorem list_snoc {α : Type} {p : List α → Prop} (h0 : p []) (hs : ∀ l x, p l → p (l ++ [x])) : ∀ l, p l := by
  intro l
  have : ∀ n (l : List α), l.length = n → p l := by
    intro n
    induction n with
    | zero => intro l e; rw [List.length_eq_zero_iff.mp e]; exact h0
    | succ n ih =>
      intro l e
      have hne : l ≠ [] := fun z => by rw [z] at e; cases e
      rw [← List.dropLast_concat_getLast hne]
      exact hs _ _ (ih _ (by rw [List.length_dropLast, e]; rfl))
  exact this _ l rfl
theorem met_mem (l : List Nat) : ∀ x, x ∈ met l ↔ x ∈ l := by
  refine list_snoc (p := fun l => ∀ x, x ∈ met l ↔ x ∈ l) (fun x => Iff.rfl) (fun l y ih x => ?_) l
  rw [met_snoc, List.mem_append, List.mem_singleton]
  by_cases h : y ∈ met l
  · rw [if_pos h, ih]
    exact ⟨.inl, fun z => z.elim id fun e => e ▸ (ih y).mp h⟩
  · rw [if_neg h, List.mem_append, ih, List.mem_singleton]
theorem met_nodup (l : List Nat) : (met l).Nodup := by
  refine list_snoc (p := fun l => (met l).Nodup) List.nodup_nil (fun l y ih => ?_) l
  rw [met_snoc]
  by_cases h : y ∈ met l
  · rw [if_pos h]; exact ih
  · rw [if_neg h, List.nodup_append]
    exact ⟨ih, by simp, fun a ha b hb e => h (by rw [List.mem_singleton.mp hb] at e; exact e ▸ ha)⟩
theorem met_len (l : List Nat) : (met l).length ≤ l.length := by
  refine list_snoc (p := fun l => (met l).length ≤ l.length) (Nat.le_refl _) (fun l y ih => ?_) l
  rw [met_snoc, List.length_append]
  split
  · exact Nat.le_trans ih (Nat.le_add_right _ _)
  · rw [List.length_append]; exact Nat.add_le_add_right ih _
theorem perm_nodup {α : Type} [DecidableEq α] : ∀ {xs ys : List α}, xs.Nodup → ys.Nodup → (∀ x, x ∈ xs ↔ x ∈ ys) → xs.Perm ys
  | [], ys, _, _, h => by
    cases ys with
    | nil => exact .nil
    | cons y ys => exact absurd ((h y).mpr List.mem_cons_self) (by simp)
  | x :: xs, ys, hx, hy, h => by
    have ⟨nx, hx⟩ := List.nodup_cons.mp hx
    have mx := (h x).mp List.mem_cons_self
    refine (List.Perm.cons x (perm_nodup (ys := ys.erase x) hx (hy.erase x) fun z => ?_)).trans (List.perm_cons_erase mx).symm
    rw [hy.mem_erase_iff]
    constructor
    · intro hz
      exact ⟨fun e => nx (e ▸ hz), (h z).mp (List.mem_cons_of_mem _ hz)⟩
    · rintro ⟨ne, hz⟩
      exact (List.mem_cons.mp ((h z).mpr hz)).resolve_left ne
theorem sum_cast : ∀ xs : List Nat, (xs.map (fun x : Nat => (x : Int))).sum = ((xs.sum : Nat) : Int)
  | [] => rfl
  | x :: xs => by rw [List.map_cons, List.sum_cons, List.sum_cons, sum_cast xs]; omega
theorem map_nV (xs : List Nat) : xs.map nV = (xs.map (fun x : Nat => (x : Int))).map V.int := by
  rw [List.map_map]; rfl
theorem sum_perm {xs ys : List Nat} (h : xs.Perm ys) : xs.sum = ys.sum := by
  induction h with
  | nil => rfl
  | cons x _ ih => rw [List.sum_cons, List.sum_cons, ih]
  | swap x y l => simp only [List.sum_cons]; omega
  | trans _ _ a b => exact a.trans b
theorem nat_cmp (f : Int → Int → Bool) (x y : Nat) : V.bl (f (x : Int) (y : Int)) = V.bl (f (x : Int) (y : Int)) := rfl
theorem int_nats : ∀ {ns : List Int}, (∀ x ∈ ns, ∃ k : Nat, x = (k : Int)) → ∃ ms : List Nat, ns = ms.map fun x : Nat => (x : Int)
  | [], _ => ⟨[], rfl⟩
  | x :: ns, h => by
    obtain ⟨k, rfl⟩ := h x List.mem_cons_self
    obtain ⟨ms, rfl⟩ := int_nats (ns := ns) fun y hy => h y (List.mem_cons_of_mem _ hy)
    exact ⟨k :: ms, rfl⟩
theorem nodup_of_lt {ms : List Nat} (h : (ms.map fun x : Nat => (x : Int)).Pairwise (· < ·)) : ms.Nodup := by
  rw [List.pairwise_map] at h
  exact h.imp fun {a b} z e => by subst e; omega
theorem map_Vint (ms : List Nat) : (ms.map fun x : Nat => (x : Int)).map V.int = ms.map nV := by rw [List.map_map]; rfl
theorem Same.mn {α : Type} {R : Hp → V → α → Prop} (m : Mn R) {H H' : Hp} {v : V} {x : α} (h : R H v x) (k : Same H H') : R H' v x := m.to h (TK.same k)
end Vf

set_option Elab.async false
set_option linter.all false
set_option maxRecDepth 100000
set_option maxHeartbeats 4000000
namespace Vf
open PySem PySem.Spec PyProof.Rows L2 TL
/-- the scope of a comprehension within one whose def has the scope d -/
def rel2 (inner d : Scope) : Scope := { inner with
  names := inner.names.map fun nk =>
    match nk with
    | (y, kk) => if (kk == .free && d.kind == .function && d.names.lookup y == some .cell) then (y, .cell) else (y, kk) }
def rTupleOf (K : PySem.W.Frag) : List V → Hp → VK → Prop := fun args H Q =>
  ∃ p ys, args = [V.ref p] ∧ ((SqL K H p ys ∧ ∀ l : Addr, H l = none → Q (.ref l) (upd H l (.tup ys))) ∨
    (SqT K H p ys ∧ Q (.ref p) H))
def rListOf (K : PySem.W.Frag) : List V → Hp → VK → Prop := fun args H Q =>
  ∃ p ys, args = [V.ref p] ∧ (SqL K H p ys ∨ SqT K H p ys) ∧
    ∀ l : Addr, H l = none → Q (.ref l) (upd H l (.lst ys))
def tTru (K : PySem.W.Frag) (ta : TE) : TT := fun σ H Q => ta σ H fun x H' => ∃ k, TruV K x H' k ∧ Q k H'
theorem pt_tru {X : Cx} {K : PySem.W.Frag} {a : Expr} {ta : TE} (hK : X.K = K) (ha : PE X a ta) (he : ∀ whole, isTrue a X.env whole = (do let v ← whole; standAt a.pos; holding [v] (truthy v))) : PT X a (tTru K ta) := by
  subst hK
  exact pt_truth ha he
theorem pi_or {X : Cx} {tg iter : Expr} {wa wb : TI} (ha : PI X tg iter wa) (hb : PI X tg iter wb) : PI X tg iter (fun σ H R => wa σ H R ∨ wb σ H R) :=
  ⟨fun pins s σ H R I h => h.elim (ha.run pins s σ H R I) (hb.run pins s σ H R I)⟩
theorem hu65 {k : Nat} {A : Around} (r : Room k A) : A.units + 65 < cLine := by have := r.un; omega
/-! ### tuples of numbers as data -/
def dN (xs : List Nat) : PyData := .tuple (xs.map fun x : Nat => .int (x : Int))
theorem dp_nats {K : PySem.W.Frag} {H : Hp} : ∀ xs : List Nat, DpAll K H (xs.map nV) (xs.map fun x : Nat => .int (x : Int))
  | [] => .nil
  | x :: xs => .cons (.int (x : Int)) (dp_nats xs)
theorem dN_dp {K : PySem.W.Frag} {H : Hp} {v : V} {xs : List Nat} (h : NsR H v xs) : Dp K H v (dN xs) := by
  obtain ⟨a, rfl, e⟩ := h
  exact .tup (SqT.of e) (dp_nats xs)
theorem dNs_dp {K : PySem.W.Frag} {H : Hp} : ∀ {us : List V} {F : List (List Nat)}, LV (NsR H) us F → DpAll K H us (F.map dN)
  | [], [], _ => .nil
  | [], _ :: _, h => by have := h.1; cases this
  | _ :: _, [], h => by have := h.1; cases this
  | u :: us, f :: F, h => by
    obtain ⟨x, e, r⟩ := h.2 0 f rfl
    have e := Option.some.inj e
    subst e
    exact .cons (dN_dp r) (dNs_dp ⟨Nat.succ.inj h.1, fun i r e => h.2 (i + 1) r e⟩)
theorem nats_lay : ∀ xs : List Nat, PyData.canLayAll0 (xs.map fun x : Nat => .int (x : Int)) = true
  | [] => by simp [PyData.canLayAll0]
  | x :: xs => by simp [PyData.canLayAll0, PyData.canLay0, nats_lay xs]
theorem nats_depth : ∀ xs : List Nat, PyData.depthAll (xs.map fun x : Nat => .int (x : Int)) = 0
  | [] => by simp [PyData.depthAll]
  | x :: xs => by simp [PyData.depthAll, PyData.depth, nats_depth xs]
theorem dN_lay (xs : List Nat) : (dN xs).canLay0 = true := by
  unfold dN; simp only [PyData.canLay0]; exact nats_lay xs
theorem dN_depth (xs : List Nat) : (dN xs).depth = 1 := by
  unfold dN; simp only [PyData.depth, nats_depth]
theorem dNs_lay : ∀ F : List (List Nat), PyData.canLayAll0 (F.map dN) = true
  | [] => by simp [PyData.canLayAll0]
  | x :: xs => by simp [PyData.canLayAll0, dN_lay x, dNs_lay xs]
theorem dNs_depth : ∀ F : List (List Nat), PyData.depthAll (F.map dN) ≤ 1
  | [] => by simp [PyData.depthAll]
  | x :: xs => by
    have h1 := dNs_depth xs
    have h2 := dN_depth x
    simp only [List.map_cons, PyData.depthAll]
    omega
theorem dN_shaped (xs : List Nat) : SeqAt.shaped (dN xs) = true := Bool.and_eq_true_iff.mpr ⟨dN_lay xs, decide_eq_true (by rw [dN_depth]; decide)⟩
theorem dNs_shaped (F : List (List Nat)) : SeqAt.shaped (.list (F.map dN)) = true :=
  Bool.and_eq_true_iff.mpr ⟨by simp only [PyData.canLay0]; exact dNs_lay F, decide_eq_true (by simp only [PyData.depth]; have := dNs_depth F; omega)⟩
theorem nats_eqv : ∀ xs ys : List Nat, PyData.eqvAll (xs.map fun x : Nat => .int (x : Int)) (ys.map fun x : Nat => .int (x : Int)) = decide (xs = ys)
  | [], [] => by simp [PyData.eqvAll]
  | [], _ :: _ => by simp [PyData.eqvAll]
  | _ :: _, [] => by simp [PyData.eqvAll]
  | x :: xs, y :: ys => by
    simp only [List.map_cons, PyData.eqvAll, PyData.eqv, nats_eqv xs ys]
    by_cases h1 : x = y
    · subst h1
      by_cases h2 : xs = ys
      · subst h2; simp
      · simp [h2]
    · have : ¬ (x : Int) = (y : Int) := by omega
      simp [h1, this]
theorem dN_eqv (xs ys : List Nat) : PyData.eqv (dN xs) (dN ys) = decide (xs = ys) := by
  unfold dN; simp only [PyData.eqv]; exact nats_eqv xs ys
theorem dNs_any (F : List (List Nat)) (f : List Nat) : ((F.map dN).any fun z => PyData.eqv z (dN f)) = decide (f ∈ F) := by
  rw [List.any_map]
  by_cases h : f ∈ F
  · rw [decide_eq_true h]
    exact List.any_eq_true.mpr ⟨f, h, by show PyData.eqv (dN f) (dN f) = true; rw [dN_eqv]; exact decide_eq_true rfl⟩
  · rw [decide_eq_false h]
    refine List.any_eq_false.mpr fun y hy => ?_
    show ¬ PyData.eqv (dN y) (dN f) = true
    rw [dN_eqv]
    exact fun z => h (of_decide_eq_true z ▸ hy)
/-- sorted of a list of tuples of equally many small ints -/
def rSortX (K : PySem.W.Frag) : List V → Hp → VK → Prop := fun vs H Q => ∃ (d : Nat) (B : Int), 1 ≤ d ∧ rSortU K d B vs H Q
theorem cr_sortX {X : Cx} : CallR X (.builtin "sorted") (rSortX X.K) := by
  intro pins s σ H vs us Q I r h
  obtain ⟨d, B, hd, h⟩ := h
  exact cr_sortT hd pins s σ H vs us Q I r h
theorem LV.perm {α : Type} {R : V → α → Prop} {us ws : List V} (hp : us.Perm ws) : ∀ {rs : List α}, LV R ws rs → ∃ ss, LV R us ss ∧ ss.Perm rs := by
  induction hp with
  | nil =>
    intro rs h
    have : rs = [] := List.length_eq_zero_iff.mp h.1.symm
    subst this
    exact ⟨[], LV.nil, .nil⟩
  | @cons x l₁ l₂ _ ih =>
    intro rs h
    cases rs with
    | nil => have := h.1; cases this
    | cons r rs =>
      obtain ⟨y, e, hr⟩ := h.2 0 r rfl
      have e := Option.some.inj e
      subst e
      obtain ⟨ss, h1, h2⟩ := ih (rs := rs) ⟨Nat.succ.inj h.1, fun i r e => h.2 (i + 1) r e⟩
      refine ⟨r :: ss, ⟨by rw [List.length_cons, List.length_cons, h1.1], fun i q e => ?_⟩, h2.cons r⟩
      cases i with
      | zero => exact ⟨_, rfl, (Option.some.inj e) ▸ hr⟩
      | succ i => exact h1.2 i q e
  | swap x y l =>
    intro rs h
    match rs, h with
    | [], h => have := h.1; cases this
    | [_], h => have := h.1; cases this
    | r :: s :: rs, h =>
      obtain ⟨y1, e, hr⟩ := h.2 0 r rfl
      have e := Option.some.inj e
      subst e
      obtain ⟨y2, e, hs⟩ := h.2 1 s rfl
      have e := Option.some.inj e
      subst e
      refine ⟨s :: r :: rs, ⟨h.1, fun i q e => ?_⟩, .swap _ _ _⟩
      match i, e with
      | 0, e => exact ⟨_, rfl, (Option.some.inj e) ▸ hs⟩
      | 1, e => exact ⟨_, rfl, (Option.some.inj e) ▸ hr⟩
      | i + 2, e => exact h.2 (i + 2) q e
  | trans _ _ a b =>
    intro rs h
    obtain ⟨ss, h1, p1⟩ := b h
    obtain ⟨ts, h2, p2⟩ := a h1
    exact ⟨ts, h2, p2.trans p1⟩
theorem fdiv_nV (a b : Nat) : V.int ((a : Int).fdiv (b : Int)) = nV (a / b) := by
  rw [Int.fdiv_eq_ediv_of_nonneg _ (by omega)]; rfl
theorem fmod_nV (a b : Nat) : V.int ((a : Int).fmod (b : Int)) = nV (a % b) := by
  rw [Int.fmod_eq_emod_of_nonneg _ (by omega)]; rfl
theorem low_snoc {os S : List Nat} {j g : Nat} (lo : os.length = j) (ho : ∀ s, s < j → os.getD s 0 < S.getD s 0) (hg : g < S.getD j 0) : ∀ s, s < j + 1 → (os ++ [g]).getD s 0 < S.getD s 0 := fun s hs => by
  rcases Nat.lt_or_ge s j with h | h
  · rw [List.getD_eq_getElem?_getD, List.getElem?_append_left (by omega), ← List.getD_eq_getElem?_getD]; exact ho s h
  · have : s = j := by omega
    subst this
    rw [List.getD_eq_getElem?_getD, List.getElem?_append_right (by omega), lo, Nat.sub_self]; exact hg
theorem PE.to {X : Cx} {e : Expr} {t t' : TE} (h : PE X e t) (i : ∀ σ H Q, t' σ H Q → t σ H Q) : PE X e t' := ⟨fun pins s σ H Q I hq => h.run pins s σ H Q I (i σ H Q hq)⟩
theorem rgV_nats (n : Nat) : rgV 0 (n : Int) = (List.range n).map nV := by
  unfold rgV
  rw [show ((n : Int) - 0).toNat = n by omega]
  refine List.map_congr_left fun i _ => ?_
  rw [Int.zero_add]; rfl
theorem toNat_k {n : Nat} : ((n : Nat) : Int).toNat = n := Int.toNat_natCast n
theorem int0 (i : Nat) : V.int (0 + (i : Int)) = nV i := by rw [Int.zero_add]; rfl
theorem ixN_last {n : Nat} (h : 0 < n) : ixN n (-1) = some (n - 1) := by
  unfold ixN
  rw [if_neg (by decide), if_pos (by omega)]
  congr 1
  omega
theorem atI_l {α : Type} {xs : List α} {v : α} (h : xs[xs.length - 1]? = some v) : atI xs (-1) = some v := by
  have h0 : 0 < xs.length := by
    have := (List.getElem?_eq_some_iff.mp h).1
    omega
  unfold atI
  rw [ixN_last h0]
  exact h
def isN (lo hi : Nat) : V → Bool
  | .int g => decide ((lo : Int) ≤ g) && decide (g ≤ (hi : Int))
  | _ => false
theorem isN_of {lo hi : Nat} {v : V} (h : isN lo hi v = true) : ∃ m : Nat, v = nV m ∧ lo ≤ m ∧ m ≤ hi := by
  cases v with
  | int g =>
    have ⟨a, b⟩ := Bool.and_eq_true_iff.mp h
    have a := of_decide_eq_true a
    have b := of_decide_eq_true b
    exact ⟨g.toNat, by unfold nV; rw [Int.toNat_of_nonneg (by omega)], by omega, by omega⟩
  | _ => cases h
theorem none_kp {d : Addr} {H H' : Hp} {b : Addr} (k : Kp d H H') (n : b ≠ d) (h : H' b = none) : H b = none := by
  cases e : H b with
  | none => rfl
  | some o => rw [k _ _ n e] at h; cases h
theorem none_same {H H' : Hp} {b : Addr} (k : Same H H') (h : H' b = none) : H b = none := by
  cases e : H b with
  | none => rfl
  | some o => rw [k _ _ e] at h; cases h
theorem draw_nt {m r : Int} (h : 0 < m) (e1 : m < 2 → r = 0) (e2 : 2 ≤ m → 0 ≤ r ∧ r < m) : ∃ j : Nat, r = (j : Int) ∧ (j : Int) < m := by
  by_cases c : m < 2
  · exact ⟨0, e1 c, by omega⟩
  · have := e2 (by omega)
    exact ⟨r.toNat, by omega, by omega⟩
end Vf

set_option Elab.async false
set_option linter.all false
set_option maxRecDepth 100000
set_option maxHeartbeats 4000000
namespace Vf
open PySem PySem.Spec PyProof.Rows L2 TL
/-! ### lines: the mathematics -/
def nP (S : Sty) (z : List Nat) : Nat := (places S z).length
def wz (Z : List (List Nat)) (i : Nat) : List Nat := Z.getD i []
def rowL (S : Sty) (Z : List (List Nat)) (i : Nat) : List (Nat × Nat) := (List.range (nP S (wz Z i) + 1)).map fun k => (i, k)
def posL (S : Sty) (Z : List (List Nat)) : List (Nat × Nat) := (List.range Z.length).flatMap (rowL S Z) ++ [(Z.length, 0)]
def eA (S : Sty) (z : List Nat) (k : Nat) : Nat := (ends S z).getD k 0
theorem eA_at {S : Sty} {z : List Nat} {k : Nat} (h : k ≤ nP S z + 1) : (ends S z)[k]? = some (eA S z k) := by
  have hl : k < (ends S z).length := by rw [ends_len]; unfold nP at h; omega
  unfold eA
  rw [List.getD_eq_getElem?_getD, List.getElem?_eq_getElem hl]; rfl
/-- the width of the piece from the k-th parting to the m-th (0: to the end) -/
def pcW (S : Sty) (z : List Nat) (k m : Nat) : Nat := pieceW S z (eA S z k) (eA S z (if m = 0 then nP S z + 1 else m))
def kkA (k t : Nat) : Nat := if t = 0 then k else 0
/-- the width of the first t words from (i, k), each with a space behind it -/
def ahW (S : Sty) (Z : List (List Nat)) (i k : Nat) : Nat → Nat
  | 0 => 0
  | t + 1 => ahW S Z i k t + (pcW S (wz Z (i + t)) (kkA k t) 0 + 1)
theorem ahW_mono {S : Sty} {Z : List (List Nat)} {i k : Nat} {t : Nat} (d : Nat) : ahW S Z i k t + d ≤ ahW S Z i k (t + d) := by
  induction d with
  | zero => exact Nat.le_refl _
  | succ d ih =>
    show _ ≤ ahW S Z i k (t + d) + (pcW S (wz Z (i + (t + d))) (kkA k (t + d)) 0 + 1)
    omega
def natW (S : Sty) (Z : List (List Nat)) (i k : Nat) (y : Nat × Nat) : Nat := if y.2 = 0 then ahW S Z i k (y.1 - i) - 1 else ahW S Z i k (y.1 - i) + pcW S (wz Z y.1) (kkA k (y.1 - i)) y.2
def headL (i t : Nat) : List (Nat × Nat) := if t = 0 then [] else [(i + t, 0)]
def innerL (S : Sty) (Z : List (List Nat)) (i k t : Nat) : List (Nat × Nat) := (List.range (nP S (wz Z (i + t)) - kkA k t)).map fun s => (i + t, kkA k t + 1 + s)
def afterL (S : Sty) (Z : List (List Nat)) (i k : Nat) : List (Nat × Nat) := (List.range (Z.length - i)).flatMap (fun t => headL i t ++ innerL S Z i k t) ++ [(Z.length, 0)]
def fitO (M : Nat) (S : Sty) (Z : List (List Nat)) (i k : Nat) (y : Nat × Nat) : Option ((Nat × Nat) × Nat) := if natW S Z i k y ≤ M then some (y, natW S Z i k y) else none
def endsF (M : Nat) (S : Sty) (Z : List (List Nat)) (i k : Nat) : List ((Nat × Nat) × Nat) := (afterL S Z i k).filterMap (fitO M S Z i k)
theorem fm_append {α β : Type} (f : α → Option β) (a b : List α) : (a ++ b).filterMap f = a.filterMap f ++ b.filterMap f := List.filterMap_append
theorem fm_none {α β : Type} {f : α → Option β} {l : List α} (h : ∀ x ∈ l, f x = none) : l.filterMap f = [] := by
  refine List.eq_nil_iff_forall_not_mem.mpr fun x hx => ?_
  obtain ⟨y, hy, e⟩ := List.mem_filterMap.mp hx
  rw [h y hy] at e; cases e
theorem fm_one {α β : Type} {f : α → Option β} {x : α} : [x].filterMap f = (f x).toList := by
  cases h : f x with
  | none => rw [List.filterMap_cons_none h]; rfl
  | some y => rw [List.filterMap_cons_some h]; rfl
/-- once a whole word's end lies too far, nothing further fits -/
theorem fit_far {M : Nat} {S : Sty} {Z : List (List Nat)} {i k t : Nat} (h : M < ahW S Z i k t - 1) {y : Nat × Nat} (hy : i + t ≤ y.1) : fitO M S Z i k y = none := by
  unfold fitO
  rw [if_neg]
  have := ahW_mono (S := S) (Z := Z) (i := i) (k := k) (t := t) (y.1 - i - t)
  rw [show t + (y.1 - i - t) = y.1 - i by omega] at this
  unfold natW
  split <;> omega
theorem ends_cut {M : Nat} {S : Sty} {Z : List (List Nat)} {i k t : Nat} (hi : i ≤ Z.length) (ht : i + t ≤ Z.length) (h : M < ahW S Z i k t - 1) :
    endsF M S Z i k = ((List.range t).flatMap fun t => headL i t ++ innerL S Z i k t).filterMap (fitO M S Z i k) := by
  unfold endsF afterL
  obtain ⟨d, hd⟩ : ∃ d, Z.length - i = t + d := ⟨Z.length - i - t, by omega⟩
  rw [hd, List.range_add, List.flatMap_append, List.append_assoc, fm_append]
  have : (List.flatMap (fun t => headL i t ++ innerL S Z i k t) (List.map (fun x => t + x) (List.range d)) ++ [(Z.length, 0)]).filterMap (fitO M S Z i k) = [] := fm_none fun y hy => by
    refine fit_far h ?_
    rcases List.mem_append.mp hy with z | z
    · obtain ⟨u, hu, hy⟩ := List.mem_flatMap.mp z
      obtain ⟨v, _, rfl⟩ := List.mem_map.mp hu
      rcases List.mem_append.mp hy with w | w
      · unfold headL at w
        split at w
        · cases w
        · rw [List.mem_singleton.mp w]; show i + t ≤ i + (t + v); omega
      · unfold innerL at w
        obtain ⟨s, _, rfl⟩ := List.mem_map.mp w
        show i + t ≤ i + (t + v); omega
    · rw [List.mem_singleton.mp z]; exact ht
  rw [this, List.append_nil]
/-- a list or a tuple of these things -/
def SeqH (H : Hp) (a : Addr) (us : List V) : Prop := H a = some (.tup us) ∨ H a = some (.lst us)
theorem SeqH.same {H H' : Hp} {a : Addr} {us : List V} (h : SeqH H a us) (k : Same H H') : SeqH H' a us := h.imp (k _ _) (k _ _)
theorem SeqH.rix {K : PySem.W.Frag} {H : Hp} {a : Addr} {us : List V} (h : SeqH H a us) {i : Int} {v : V} {Q : VK} (e : atI us i = some v) (q : Q v H) : rIx K (.ref a) (.int i) H Q :=
  h.elim (fun h => .inr (.inl ⟨a, us, i, v, rfl, rfl, SqT.of h, e, q⟩)) (fun h => .inl ⟨a, us, i, v, rfl, rfl, SqL.of h, e, q⟩)
theorem SeqH.len {K : PySem.W.Frag} {H : Hp} {a : Addr} {us : List V} (h : SeqH H a us) : LenV K (.ref a) H us.length := h.elim (fun h => .inr ⟨us, SqT.of h, rfl⟩) (fun h => .inl ⟨us, SqL.of h, rfl⟩)
def ShV (S : Sty) (H : Hp) (x : V) (z : List Nat) : Prop := ShapeV H x S z
theorem ShV.kt {S : Sty} {H H' : Hp} {x : V} {z : List Nat} (h : ShV S H x z) (k : ∀ a xs, H a = some (.tup xs) → H' a = some (.tup xs)) : ShV S H' x z := ShapeV.mono h k
structure WdsOk (S : Sty) (Z : List (List Nat)) : Prop where
  st : StyOk S
  ne : ∀ z ∈ Z, 0 < z.length
  pl : ∀ z ∈ Z, nP S z ≤ 16
  ln : Z.length ≤ 40
theorem wz_at {Z : List (List Nat)} {i : Nat} (h : i < Z.length) : Z[i]? = some (wz Z i) := by
  unfold wz
  rw [List.getD_eq_getElem?_getD, List.getElem?_eq_getElem h]; rfl
theorem wz_mem {Z : List (List Nat)} {i : Nat} (h : i < Z.length) : wz Z i ∈ Z := List.mem_of_getElem? (wz_at h)
theorem natV_nV (n : Nat) : natV n = nV n := rfl
end Vf

set_option Elab.async false
set_option linter.all false
set_option maxRecDepth 100000
set_option maxHeartbeats 4000000
namespace Vf
open PySem PySem.Spec PyProof.Rows L2 TL
theorem ifD {p A B : Prop} [Decidable p] (h : p → A) (g : ¬ p → B) : if decide p = true then A else B := by
  by_cases c : p
  · rw [if_pos (decide_eq_true c)]; exact h c
  · rw [if_neg (by rw [decide_eq_false c]; decide)]; exact g c
theorem kt_new {H : Hp} {p : Addr} {o : HO} (n : H p = none) : ∀ a xs, H a = some (.tup xs) → upd H p o a = some (.tup xs) := fun a xs e => by rw [upd_ne (ne_of_none e n)]; exact e
theorem kt_mut {H : Hp} {D : Addr} {ys zs : List V} (eD : H D = some (.lst ys)) : ∀ a xs, H a = some (.tup xs) → upd H D (.lst zs) a = some (.tup xs) := fun a xs e => by
  rw [upd_ne (fun z => by rw [z, eD] at e; cases e)]; exact e
def EnV (H : Hp) (x : V) (r : (Nat × Nat) × Nat) : Prop := ∃ b b2, x = .ref b ∧ H b = some (.tup [.ref b2, nV r.2]) ∧ H b2 = some (.tup [nV r.1.1, nV r.1.2])
theorem EnV.kt {H H' : Hp} {x : V} {r : (Nat × Nat) × Nat} (h : EnV H x r) (k : ∀ a xs, H a = some (.tup xs) → H' a = some (.tup xs)) : EnV H' x r := by
  obtain ⟨b, b2, e, f, g⟩ := h
  exact ⟨b, b2, e, k _ _ f, k _ _ g⟩
/-- one more end in the list at l -/
theorem end_app {H H3 : Hp} {l p p2 : Addr} {zs : List V} {rs : List ((Nat × Nat) × Nat)} {a b w : Nat} {va vb vw : V} (k : Same H H3) (nl : H l = none) (el : H3 l = some (.lst zs)) (lz : LV (EnV H3) zs rs) (ha : va = nV a) (hb : vb = nV b) (hw : vw = nV w)
    (np : H3 p = none) (np2 : upd H3 p (.tup [va, vb]) p2 = none) :
    upd (upd H3 p (.tup [va, vb])) p2 (.tup [.ref p, vw]) l = some (.lst zs) ∧ Same H (upd (upd (upd H3 p (.tup [va, vb])) p2 (.tup [.ref p, vw])) l (.lst (zs ++ [.ref p2]))) ∧
    LV (EnV (upd (upd (upd H3 p (.tup [va, vb])) p2 (.tup [.ref p, vw])) l (.lst (zs ++ [.ref p2])))) (zs ++ [.ref p2]) (rs ++ [((a, b), w)]) := by
  subst ha hb hw
  have k1 := same_upd (o := .tup [nV a, nV b]) (Same.refl H3) np
  have e1 : upd H3 p (.tup [nV a, nV b]) p = some (.tup [nV a, nV b]) := upd_same
  generalize upd H3 p (.tup [nV a, nV b]) = H4 at k1 e1 np2
  have k2 := same_upd (o := .tup [.ref p, nV w]) (Same.refl H4) np2
  have e2 : upd H4 p2 (.tup [.ref p, nV w]) p2 = some (.tup [.ref p, nV w]) := upd_same
  generalize upd H4 p2 (.tup [.ref p, nV w]) = H5 at k2 e2
  have k12 := k1.trans k2
  have el5 := k12 _ _ el
  exact ⟨el5, same_mut (k.trans k12) nl, LV.snoc (lz.mono fun x r z => (z.kt fun a xs e => k12 _ _ e).kt (kt_mut el5)) ⟨p2, p, rfl, kt_mut el5 _ _ e2, kt_mut el5 _ _ (k2 _ _ e1)⟩⟩
theorem pcW_mid {S : Sty} {z : List Nat} {k m : Nat} (h : m ≠ 0) : pcW S z k m = pieceW S z (eA S z k) (eA S z m) := by
  unfold pcW; rw [if_neg h]
theorem pcW_end {S : Sty} {z : List Nat} {k : Nat} : pcW S z k 0 = pieceW S z (eA S z k) (eA S z (nP S z + 1)) := by
  unfold pcW; rw [if_pos rfl]
section
variable {P : Program} {w : World} {K : PySem.W.Frag} {mg : Str → Option Value} {base : Heap}
def spEndsFrom : Sp := fun vs H Q _ => ∃ (sa ba : Addr) (us : List V) (S : Sty) (Z : List (List Nat)) (M i k : Nat), vs = [nV M, .ref sa, .ref ba] ∧ H sa = some (.tup us) ∧ LV (ShV S H) us Z ∧ WdsOk S Z ∧ H ba = some (.tup [nV i, nV k]) ∧ i < Z.length ∧ k ≤ nP S (wz Z i) ∧
  ∀ H' l zs, Same H H' → H l = none → H' l = some (.lst zs) → LV (EnV H') zs (endsF M S Z i k) → Q (.ref l) H'
theorem ok_ends_from (T : Txt K mg) : FnOk P w K mg base CX0 2 T.a_ends_from T.d_ends_from ["measure", "shapes", "begin"] spEndsFrom := by
  have G_piece_width : FnOk P w K mg base CX0 1 T.a_piece_width T.d_piece_width ["shape", "first", "last"] spPieceWidth := ok_piece_width T
  refine T.D_ends_from.F.ok sc_ends_from (fun vs H Q E h => ?_) (fun cdv A outer s H vs Q E hr h => ?_)
  · obtain ⟨_, _, _, _, _, _, _, _, rfl, _⟩ := h
    rfl
  · obtain ⟨sa, ba, us, S, Z, M, i, k, rfl, es, lv, ok, eb, hi, hk, q⟩ := h
    have l40 := ok.ln
    have lus := lv.1
    refine ⟨_, (pss_cons (ps_asg (pv 2) (pg_tup (by rfl) (pgs_cons (pg_name (i := 3) sc_ends_from.nd rfl (.inl rfl)) (pgs_cons (pg_name (i := 4) sc_ends_from.nd rfl (.inl rfl)) pgs_nil))))
      (pss_cons (ps_set (i := 5) sc_ends_from.nd rfl (.inl rfl) (pe_lst pa_nil))
      (pss_cons (ps_set (i := 6) sc_ends_from.nd rfl (.inl rfl) pe_int)
      (pss_cons (ps_for PassesOwn.never rfl (pi_range2 (by rfl) T.n_range (pa_cons (pv 3) (pa_cons (pe_callB call_len_seq (by rfl) T.n_len PySem.boot_len (pa_cons (pv 1) pa_nil)) pa_nil))) (pg_name (i := 7) sc_ends_from.nd rfl (.inl rfl)) (Evl.pss_cut (ps_if (pt_cmpR op_gt (pv 7) (pv 3) (nomark _)) (pss_cons (ps_if (pt_cmpR op_gt (pe_op op_sub (pv 6) pe_int) (pv 0) (nomark _)) (pss_one (ps_ret (pv 5))) pss_nil)
      (pss_cons (ps_expr (pe_bm PySem.F.plainAttrs_list PySem.F.slot_list_append PySem.F.type_list_append mt_append (pv 5) (pa_cons (pe_tup (pa_cons (pe_tup (pa_cons (pv 7) (pa_cons pe_int pa_nil))) (pa_cons (pe_op op_sub (pv 6) pe_int) pa_nil))) pa_nil)))
      (pss_one (ps_set (i := 4) sc_ends_from.nd rfl (.inl rfl) pe_int)))) pss_nil)
      (pss_cons (ps_for PassesOwn.never rfl (pi_range2 (by rfl) T.n_range (pa_cons (pe_op op_add (pv 4) pe_int) (pa_cons (pe_op op_add (pe_callB call_len_seq (by rfl) T.n_len PySem.boot_len (pa_cons (pe_ix ix_tup (pe_ix ix_tup (pv 1) (pv 7) (fun _ _ => rfl)) pe_int (fun _ _ => rfl)) pa_nil)) pe_int) pa_nil))) (pg_name (i := 8) sc_ends_from.nd rfl (.inl rfl)) (pss_cons (ps_set (i := 9) sc_ends_from.nd rfl (.inl rfl) (pe_op op_add (pv 6) (pe_call G_piece_width (hr.mono (by decide)) (by rfl) T.D_piece_width.G T.D_piece_width.F.kp T.D_piece_width.B .nil pass0 (pa_cons (pe_ix ix_tup (pv 1) (pv 7) (fun _ _ => rfl)) (pa_cons (pv 4) (pa_cons (pv 8) pa_nil))))))
      (pss_one (ps_if (pt_cmpR op_le (pv 9) (pv 0) (nomark _)) (pss_one (ps_expr (pe_bm PySem.F.plainAttrs_list PySem.F.slot_list_append PySem.F.type_list_append mt_append (pv 5) (pa_cons (pe_tup (pa_cons (pe_tup (pa_cons (pv 7) (pa_cons (pv 8) pa_nil))) (pa_cons (pv 9) pa_nil))) pa_nil)))) pss_nil))))
      (pss_one (ps_aug (i := 6) sc_ends_from.nd rfl (.inl rfl) (pe_op op_add (pe_call G_piece_width (hr.mono (by decide)) (by rfl) T.D_piece_width.G T.D_piece_width.F.kp T.D_piece_width.B .nil pass0 (pa_cons (pe_ix ix_tup (pv 1) (pv 7) (fun _ _ => rfl)) (pa_cons (pv 4) (pa_cons pe_int pa_nil)))) pe_int) ip_add)))))
      (pss_cons (ps_if (pt_cmpR op_le (pe_op op_sub (pv 6) pe_int) (pv 0) (nomark _)) (pss_one (ps_expr (pe_bm PySem.F.plainAttrs_list PySem.F.slot_list_append PySem.F.type_list_append mt_append (pv 5) (pa_cons (pe_tup (pa_cons (pe_tup (pa_cons (pe_callB call_len_seq (by rfl) T.n_len PySem.boot_len (pa_cons (pv 1) pa_nil)) (pa_cons pe_int pa_nil))) (pa_cons (pe_op op_sub (pv 6) pe_int) pa_nil))) pa_nil)))) pss_nil)
      (pss_one (ps_ret (pv 5)))))))), ?_⟩
    refine ⟨_, rfl, ba, _, rfl, SqT.of eb, rfl, _, _, rfl, _, _, rfl, rfl, ?_⟩
    refine ⟨by show 0 ≤ sizeLine; decide, fun l nl => ?_⟩
    have k1 := same_upd (o := .lst []) (Same.refl H) nl
    have el : upd H l (.lst []) l = some (.lst []) := upd_same
    generalize upd H l (.lst []) = H1 at k1 el
    have enn : ((Z.length : Int) - (i : Int)).toNat = Z.length - i := by omega
    refine ⟨_, rfl, _, rfl, sa, us, rfl, .inr (SqT.of (k1 _ _ es)), (i : Int), (Z.length : Int), by rw [lus]; rfl, by omega, ?_⟩
    rw [enn]
    refine for_it walk_range (fun t σ' H' => ∃ (x4 x7 x8 x9 : Option V) (zs : List V), σ' = [some (nV M), some (.ref sa), some (.ref ba), some (nV i), x4, some (.ref l), some (nV (ahW S Z i k t)), x7, x8, x9] ∧ (t = 0 → x4 = some (nV k)) ∧ Same H H' ∧ H' l = some (.lst zs) ∧ LV (EnV H') zs (((List.range t).flatMap fun t => headL i t ++ innerL S Z i k t).filterMap (fitO M S Z i k)) ∧ zs.length ≤ t * 20)
      ⟨_, none, none, none, [], rfl, fun _ => rfl, k1, el, LV.nil, Nat.zero_le _⟩ (fun _ _ _ _ _ => trivial) ?_ ?_
    · rintro t x σ' H0 H2 ht ⟨x4, x7, x8, x9, zs, rfl, h4, k2, el2, lz, lzs⟩ ⟨rfl, hx⟩
      have hx : x = nV (i + t) := by rw [hx]; exact congrArg V.int (by omega)
      subst hx
      have hit : i + t < Z.length := by omega
      refine ⟨fun σ' H' => ∃ (x8 x9 : Option V) (zs : List V), σ' = [some (nV M), some (.ref sa), some (.ref ba), some (nV i), some (nV (kkA k t)), some (.ref l), some (nV (ahW S Z i k t)), some (nV (i + t)), x8, x9] ∧ Same H H' ∧ H' l = some (.lst zs) ∧ LV (EnV H') zs (((List.range t).flatMap fun t => headL i t ++ innerL S Z i k t).filterMap (fitO M S Z i k) ++ (headL i t).filterMap (fitO M S Z i k)) ∧ zs.length ≤ t * 20 + 1, ?_, ?_⟩
      · refine ⟨_, rfl, _, rfl, _, _, rfl, rfl, _, rfl, ?_⟩
        refine ifD (fun c1 => ?_) (fun c1 => ?_)
        · have c1 : (i : Int) < ((i + t : Nat) : Int) := c1
          have ht0 : t ≠ 0 := by omega
          refine ⟨_, rfl, _, _, rfl, rfl, _, rfl, _, _, rfl, rfl, _, rfl, ?_⟩
          refine ifD (fun c2 => ?_) (fun c2 => ?_)
          · have c2 : (M : Int) < (ahW S Z i k t : Int) - 1 := c2
            exact ⟨_, rfl, q H2 l zs k2 nl el2 (by rw [ends_cut (t := t) (by omega) (by omega) (by omega)]; exact lz)⟩
          · have c2 : ¬ (M : Int) < (ahW S Z i k t : Int) - 1 := c2
            have h1 := ahW_mono (S := S) (Z := Z) (i := i) (k := k) (t := 0) t
            rw [Nat.zero_add] at h1
            have hk0 : kkA k t = 0 := if_neg ht0
            have hfit : fitO M S Z i k (i + t, 0) = some ((i + t, 0), ahW S Z i k t - 1) := by
              have e : natW S Z i k (i + t, 0) = ahW S Z i k t - 1 := by
                unfold natW
                rw [if_pos rfl, Nat.add_sub_cancel_left]
              unfold fitO
              rw [e, if_pos (by omega)]
            have hh : (headL i t).filterMap (fitO M S Z i k) = [((i + t, 0), ahW S Z i k t - 1)] := by
              unfold headL
              rw [if_neg ht0, fm_one, hfit]; rfl
            rw [hk0, hh]
            refine ⟨.ref l, rfl, .inl ⟨rfl, _, .inl (.inl el2)⟩, _, rfl, by show 2 ≤ sizeLine; decide, fun p np => ?_⟩
            refine ⟨_, rfl, _, _, rfl, rfl, by show 2 ≤ sizeLine; decide, fun p2 np2 => ?_⟩
            have E := end_app (a := i + t) (b := 0) (w := ahW S Z i k t - 1) (vw := V.int ((ahW S Z i k t : Int) - 1)) k2 nl el2 lz rfl rfl (congrArg V.int (by omega)) np np2
            exact ⟨l, zs, _, rfl, rfl, E.1, szN (by omega), _, _, _, rfl, E.2.1, upd_same, E.2.2, by rw [List.length_append]; exact Nat.succ_le_succ lzs⟩
        · have c1 : ¬ (i : Int) < ((i + t : Nat) : Int) := c1
          have ht0 : t = 0 := by omega
          subst ht0
          rw [h4 rfl]
          exact ⟨_, _, zs, rfl, k2, el2, by show LV _ _ (_ ++ []); rw [List.append_nil]; exact lz, by omega⟩
      · rintro σ' H3 ⟨x8, x9, zs, rfl, k3, el3, lz3, lzs3⟩
        obtain ⟨u, eu, sa2, pa, ws, rfl, e1, e2, pl⟩ := lv.2 (i + t) _ (wz_at hit)
        have hsh : ShapeV H (.ref sa2) S (wz Z (i + t)) := ⟨sa2, pa, ws, rfl, e1, e2, pl⟩
        have hn16 := ok.pl _ (wz_mem hit)
        have h0 := ok.ne _ (wz_mem hit)
        have plen : ws.length = nP S (wz Z (i + t)) := pl.1
        have hkk : kkA k t ≤ nP S (wz Z (i + t)) := by
          unfold kkA
          by_cases c : t = 0
          · subst c
            rw [if_pos rfl]; exact hk
          · rw [if_neg c]; exact Nat.zero_le _
        generalize hkd : kkA k t = kk at hkk
        have en2 : (((nP S (wz Z (i + t)) + 1 : Nat) : Int) - ((kk + 1 : Nat) : Int)).toNat = nP S (wz Z (i + t)) - kk := by omega
        refine ⟨_, rfl, _, _, rfl, rfl, _, rfl, _, rfl, sa, us, _, _, rfl, rfl, SqT.of (k3 _ _ es), atI_nat eu, sa2, _, 1, _, rfl, rfl, SqT.of (k3 _ _ e1), rfl, pa, ws, rfl, .inr (SqT.of (k3 _ _ e2)), _, _, rfl, rfl, ((kk + 1 : Nat) : Int), ((nP S (wz Z (i + t)) + 1 : Nat) : Int), by rw [plen]; rfl, by omega, ?_⟩
        rw [en2]
        refine for_it walk_range (fun s σ' H' => ∃ (x8 x9 : Option V) (zs : List V), σ' = [some (nV M), some (.ref sa), some (.ref ba), some (nV i), some (nV kk), some (.ref l), some (nV (ahW S Z i k t)), some (nV (i + t)), x8, x9] ∧ Same H H' ∧ H' l = some (.lst zs) ∧ LV (EnV H') zs (((List.range t).flatMap fun t => headL i t ++ innerL S Z i k t).filterMap (fitO M S Z i k) ++ (headL i t).filterMap (fitO M S Z i k) ++ ((List.range s).map fun s => (i + t, kk + 1 + s)).filterMap (fitO M S Z i k)) ∧ zs.length ≤ t * 20 + 1 + s)
          ⟨x8, x9, zs, rfl, k3, el3, by show LV _ _ (_ ++ []); rw [List.append_nil]; exact lz3, lzs3⟩ (fun _ _ _ _ _ => trivial) ?_ ?_
        · rintro s y σ' H0 H4 hs ⟨x8, x9, zs, rfl, k4, el4, lz4, lzs4⟩ ⟨rfl, hy⟩
          have hy : y = nV (kk + 1 + s) := by rw [hy]; exact congrArg V.int (by omega)
          subst hy
          have hm : kk + 1 + s ≠ 0 := by omega
          have er : (List.range (s + 1)).map (fun s => (i + t, kk + 1 + s)) = (List.range s).map (fun s => (i + t, kk + 1 + s)) ++ [(i + t, kk + 1 + s)] := by rw [List.range_succ, List.map_append]; rfl
          rw [er, fm_append, fm_one, ← List.append_assoc]
          refine ⟨_, rfl, _, rfl, _, rfl, sa, us, _, _, rfl, rfl, SqT.of (k4 _ _ es), atI_nat eu, _, rfl, _, rfl, .ref sa2, S, wz Z (i + t), kk, kk + 1 + s, eA S (wz Z (i + t)) kk, eA S (wz Z (i + t)) (kk + 1 + s), ?_, ShapeV.mono hsh (fun _ _ e => k4 _ _ e), ok.st, h0, by omega, eA_at (by omega), eA_at (by omega), fun H5 k5 => ?_⟩
          · rw [if_neg (by unfold nP at hs; omega)]; rfl
          rw [← pcW_mid hm]
          have k45 := k4.trans k5
          have el5 := k5 _ _ el4
          have lz5 := lz4.mono fun x r z => EnV.kt z fun _ _ e => k5 _ _ e
          have en : natW S Z i k (i + t, kk + 1 + s) = ahW S Z i k t + pcW S (wz Z (i + t)) kk (kk + 1 + s) := by
            unfold natW
            rw [if_neg hm, Nat.add_sub_cancel_left, hkd]
          generalize pcW S (wz Z (i + t)) kk (kk + 1 + s) = pc at en
          refine ⟨_, _, rfl, rfl, ?_⟩
          refine ⟨_, rfl, _, rfl, _, _, rfl, rfl, _, rfl, ?_⟩
          refine ifD (fun c2 => ?_) (fun c2 => ?_)
          · have c2 : (ahW S Z i k t : Int) + (pc : Int) ≤ (M : Int) := c2
            have hfit : fitO M S Z i k (i + t, kk + 1 + s) = some ((i + t, kk + 1 + s), ahW S Z i k t + pc) := by
              unfold fitO
              rw [en, if_pos (by omega)]
            rw [hfit]
            refine ⟨.ref l, rfl, .inl ⟨rfl, _, .inl (.inl el5)⟩, _, rfl, _, rfl, by show 2 ≤ sizeLine; decide, fun p np => ?_⟩
            refine ⟨_, rfl, by show 2 ≤ sizeLine; decide, fun p2 np2 => ?_⟩
            have E := end_app (a := i + t) (b := kk + 1 + s) (w := ahW S Z i k t + pc) (vw := V.int ((ahW S Z i k t : Int) + (pc : Int))) k45 nl el5 lz5 rfl rfl rfl np np2
            exact ⟨l, zs, _, rfl, rfl, E.1, szN (by omega), _, _, _, rfl, E.2.1, upd_same, E.2.2, by rw [List.length_append]; exact Nat.succ_le_succ lzs4⟩
          · have c2 : ¬ (ahW S Z i k t : Int) + (pc : Int) ≤ (M : Int) := c2
            have hfit : fitO M S Z i k (i + t, kk + 1 + s) = none := by
              unfold fitO
              rw [en, if_neg (by omega)]
            rw [hfit]
            exact ⟨_, _, zs, rfl, k45, el5, by show LV _ _ (_ ++ []); rw [List.append_nil]; exact lz5, by omega⟩
        · rintro σ' H4 ⟨x8, x9, zs, rfl, k4, el4, lz4, lzs4⟩
          refine ⟨_, rfl, _, rfl, _, rfl, sa, us, _, _, rfl, rfl, SqT.of (k4 _ _ es), atI_nat eu, _, rfl, .ref sa2, S, wz Z (i + t), kk, nP S (wz Z (i + t)) + 1, eA S (wz Z (i + t)) kk, eA S (wz Z (i + t)) (nP S (wz Z (i + t)) + 1), ?_, ShapeV.mono hsh (fun _ _ e => k4 _ _ e), ok.st, h0, by omega, eA_at (by omega), eA_at (by omega), fun H5 k5 => ?_⟩
          · rw [if_pos (show nP S (wz Z (i + t)) + 1 = (places S (wz Z (i + t))).length + 1 from rfl)]; rfl
          rw [← pcW_end]
          have eah : ahW S Z i k (t + 1) = ahW S Z i k t + (pcW S (wz Z (i + t)) kk 0 + 1) := by rw [← hkd]; rfl
          rw [eah]
          have hr1 : ((List.range (t + 1)).flatMap fun t => headL i t ++ innerL S Z i k t) = ((List.range t).flatMap fun t => headL i t ++ innerL S Z i k t) ++ (headL i t ++ innerL S Z i k t) := by
            rw [List.range_succ, List.flatMap_append, List.flatMap_cons, List.flatMap_nil, List.append_nil]
          have hin : innerL S Z i k t = (List.range (nP S (wz Z (i + t)) - kk)).map fun s => (i + t, kk + 1 + s) := by
            unfold innerL
            rw [hkd]
          rw [hr1, fm_append, fm_append, hin, ← List.append_assoc]
          refine ⟨_, _, rfl, rfl, _, _, rfl, rfl, ?_⟩
          exact ⟨_, _, _, _, zs, rfl, fun h => absurd h (Nat.succ_ne_zero t), k4.trans k5, k5 _ _ el4, lz4.mono fun x r z => EnV.kt z fun _ _ e => k5 _ _ e, by omega⟩
    · rintro σ' H2 ⟨x4, x7, x8, x9, zs, rfl, _, k2, el2, lz, lzs⟩
      have h1 := ahW_mono (S := S) (Z := Z) (i := i) (k := k) (t := 0) (Z.length - i)
      rw [Nat.zero_add] at h1
      have en : natW S Z i k (Z.length, 0) = ahW S Z i k (Z.length - i) - 1 := by
        unfold natW
        rw [if_pos rfl]
      have hef : endsF M S Z i k = ((List.range (Z.length - i)).flatMap fun t => headL i t ++ innerL S Z i k t).filterMap (fitO M S Z i k) ++ (fitO M S Z i k (Z.length, 0)).toList := by
        unfold endsF afterL
        rw [fm_append, fm_one]
      refine ⟨_, rfl, _, _, rfl, rfl, _, rfl, _, _, rfl, rfl, _, rfl, ?_⟩
      refine ifD (fun c2 => ?_) (fun c2 => ?_)
      · have c2 : (ahW S Z i k (Z.length - i) : Int) - 1 ≤ (M : Int) := c2
        have hfit : fitO M S Z i k (Z.length, 0) = some ((Z.length, 0), ahW S Z i k (Z.length - i) - 1) := by
          unfold fitO
          rw [en, if_pos (by omega)]
        refine ⟨.ref l, rfl, .inl ⟨rfl, _, .inl (.inl el2)⟩, _, rfl, sa, us, rfl, .inr (SqT.of (k2 _ _ es)), by show 2 ≤ sizeLine; decide, fun p np => ?_⟩
        refine ⟨_, rfl, _, _, rfl, rfl, by show 2 ≤ sizeLine; decide, fun p2 np2 => ?_⟩
        have E := end_app (a := Z.length) (b := 0) (w := ahW S Z i k (Z.length - i) - 1) (va := V.int (us.length : Nat)) (vb := V.int 0) (vw := V.int ((ahW S Z i k (Z.length - i) : Int) - 1)) k2 nl el2 lz (by rw [lus]; rfl) rfl (congrArg V.int (by omega)) np np2
        refine ⟨l, zs, _, rfl, rfl, E.1, szN (by omega), _, rfl, ?_⟩
        exact q _ l _ E.2.1 nl upd_same (by rw [hef, hfit]; exact E.2.2)
      · have c2 : ¬ (ahW S Z i k (Z.length - i) : Int) - 1 ≤ (M : Int) := c2
        have hfit : fitO M S Z i k (Z.length, 0) = none := by
          unfold fitO
          rw [en, if_neg (by omega)]
        exact ⟨_, rfl, q H2 l zs k2 nl el2 (by rw [hef, hfit]; show LV _ _ (_ ++ []); rw [List.append_nil]; exact lz)⟩
end
end Vf

set_option Elab.async false
set_option linter.all false
set_option maxRecDepth 100000
set_option maxHeartbeats 4000000
namespace Vf
open PySem PySem.Spec PyProof.Rows L2 TL
def prA (S : Sty) (z : List Nat) (m : Nat) : Nat := ((places S z).getD (m - 1) (0, 0)).2
def costQ (M L : Nat) (S : Sty) (Z : List (List Nat)) (k : Nat) (y : Nat × Nat) (wd : Nat) : Nat :=
  if y.1 = Z.length then 0 else (M - wd) * (M - wd) + (if 0 < y.2 then prA S (wz Z y.1) y.2 + (if 0 < k then L else 0) else 0)
def linesF (M L : Nat) (S : Sty) (Z : List (List Nat)) (i k : Nat) : List ((Nat × Nat) × Nat) := (endsF M S Z i k).map fun y => (y.1, costQ M L S Z k y.1 y.2)
theorem after_mem {S : Sty} {Z : List (List Nat)} {i k : Nat} (hi : i < Z.length) {y : Nat × Nat} (h : y ∈ afterL S Z i k) : y = (Z.length, 0) ∨ (y.1 < Z.length ∧ y.2 ≤ nP S (wz Z y.1)) := by
  rcases List.mem_append.mp h with h | h
  · obtain ⟨t, ht, h⟩ := List.mem_flatMap.mp h
    have ht := List.mem_range.mp ht
    refine .inr ?_
    rcases List.mem_append.mp h with h | h
    · unfold headL at h
      split at h
      · cases h
      · rw [List.mem_singleton.mp h]
        exact ⟨by show i + t < _; omega, Nat.zero_le _⟩
    · unfold innerL at h
      obtain ⟨s, hs, rfl⟩ := List.mem_map.mp h
      have hs := List.mem_range.mp hs
      exact ⟨by show i + t < _; omega, by show kkA k t + 1 + s ≤ nP S (wz Z (i + t)); omega⟩
  · exact .inl (List.mem_singleton.mp h)
theorem ends_mem {M : Nat} {S : Sty} {Z : List (List Nat)} {i k : Nat} {y : (Nat × Nat) × Nat} (h : y ∈ endsF M S Z i k) : y.1 ∈ afterL S Z i k ∧ y.2 ≤ M := by
  obtain ⟨x, hx, e⟩ := List.mem_filterMap.mp h
  unfold fitO at e
  split at e
  · next c =>
    rw [← Option.some.inj e]; exact ⟨hx, c⟩
  · cases e
section
variable {P : Program} {w : World} {K : PySem.W.Frag} {mg : Str → Option Value} {base : Heap}
def spLCost : Sp := fun vs H Q _ => ∃ (sa ba ea : Addr) (us : List V) (S : Sty) (Z : List (List Nat)) (M L i k j m wd : Nat), vs = [nV M, nV L, .ref sa, .ref ba, .ref ea, nV wd] ∧ H sa = some (.tup us) ∧ LV (ShV S H) us Z ∧ H ba = some (.tup [nV i, nV k]) ∧ H ea = some (.tup [nV j, nV m]) ∧ ((j, m) = (Z.length, 0) ∨ (j < Z.length ∧ m ≤ nP S (wz Z j))) ∧ wd ≤ M ∧ M ≤ 1000000 ∧
  ∀ H', Same H H' → Q (nV (costQ M L S Z k (j, m) wd)) H'
theorem ok_lcost (T : Txt K mg) : FnOk P w K mg base CX0 1 T.a_cost T.d_cost ["measure", "ladder", "shapes", "begin", "end", "width"] spLCost := by
  refine T.D_cost.F.ok sc_cost (fun vs H Q E h => ?_) (fun cdv A outer s H vs Q E hr h => ?_)
  · obtain ⟨_, _, _, _, _, _, _, _, _, _, _, _, _, rfl, _⟩ := h
    rfl
  · obtain ⟨sa, ba, ea, us, S, Z, M, L, i, k, j, m, wd, rfl, es, lv, eb, ee, hj, hw, hM, q⟩ := h
    have lus := lv.1
    have q := q H (Same.refl H)
    unfold costQ at q
    refine ⟨_, (pss_cons (ps_if (pt_cmpR op_eq (pe_ix ix_tup (pv 4) pe_int (fun _ _ => rfl)) (pe_callB call_len_seq (by rfl) T.n_len PySem.boot_len (pa_cons (pv 2) pa_nil)) (nomark _)) (pss_one (ps_ret pe_int)) pss_nil)
      (pss_cons (ps_set (i := 6) sc_cost.nd rfl (.inl rfl) (pe_op op_mul (pe_op op_sub (pv 0) (pv 5)) (pe_op op_sub (pv 0) (pv 5))))
      (pss_cons (ps_asg (pv 4) (pg_tup (by rfl) (pgs_cons (pg_name (i := 7) sc_cost.nd rfl (.inl rfl)) (pgs_cons (pg_name (i := 8) sc_cost.nd rfl (.inl rfl)) pgs_nil))))
      (pss_cons (ps_if (pt_cmpR op_gt (pv 8) pe_int (nomark _)) (pss_cons (ps_aug (i := 6) sc_cost.nd rfl (.inl rfl) (pe_ix ix_tup (pe_ix ix_tup (pe_ix ix_tup (pe_ix ix_tup (pv 2) (pv 7) (fun _ _ => rfl)) pe_int (fun _ _ => rfl)) (pe_op op_sub (pv 8) pe_int) (fun _ _ => rfl)) pe_int (fun _ _ => rfl)) ip_add)
      (pss_one (ps_if (pt_cmpR op_gt (pe_ix ix_tup (pv 3) pe_int (fun _ _ => rfl)) pe_int (nomark _)) (pss_one (ps_aug (i := 6) sc_cost.nd rfl (.inl rfl) (pv 1) ip_add)) pss_nil))) pss_nil)
      (pss_one (ps_ret (pv 6))))))), ?_⟩
    refine ⟨_, rfl, ea, _, 0, _, rfl, rfl, SqT.of ee, rfl, _, rfl, sa, us, rfl, .inr (SqT.of es), rfl, _, rfl, ?_⟩
    rw [lus]
    refine ifD (fun c1 => ?_) (fun c1 => ?_)
    · have c1 : j = Z.length := Int.ofNat.inj (V.int.inj c1)
      rw [if_pos c1] at q; exact q
    · have c1 : ¬ j = Z.length := fun x => c1 (by rw [x]; rfl)
      rw [if_neg c1] at q
      obtain ⟨hjl, hm⟩ := hj.resolve_left fun x => c1 (congrArg Prod.fst x)
      have eX : (M : Int) - (wd : Int) = ((M - wd : Nat) : Int) := by omega
      have e0 : ((M : Int) - (wd : Int)) * ((M : Int) - (wd : Int)) = (((M - wd) * (M - wd) : Nat) : Int) := by rw [eX, Int.natCast_mul]
      generalize (M - wd) * (M - wd) = mm at q e0
      refine ⟨_, rfl, _, rfl, _, _, rfl, rfl, _, rfl, _, rfl, _, _, rfl, rfl, _, _, rfl, rfl, .inl (by omega), ?_⟩
      refine ⟨_, rfl, ea, _, rfl, SqT.of ee, rfl, _, _, rfl, _, _, rfl, rfl, ?_⟩
      refine ⟨_, rfl, _, _, rfl, rfl, _, rfl, ?_⟩
      refine ifD (fun c2 => ?_) (fun c2 => ?_)
      · have c2 : (0 : Int) < (m : Int) := c2
        have c2 : 0 < m := by omega
        rw [if_pos c2] at q
        obtain ⟨u, eu, sa2, pa, ws, rfl, e1, e2, pl⟩ := lv.2 j _ (wz_at hjl)
        obtain ⟨rr, gm⟩ : ∃ rr, (places S (wz Z j))[m - 1]? = some rr := ⟨_, List.getElem?_eq_getElem (by unfold nP at hm; omega)⟩
        obtain ⟨x, ex, b, rfl, eb2⟩ := pl.2 _ _ gm
        have ep : rr.2 = prA S (wz Z j) m := by
          unfold prA
          rw [List.getD_eq_getElem?_getD, gm]; rfl
        rw [ep] at eb2
        have em : (m : Int) - 1 = ((m - 1 : Nat) : Int) := by omega
        generalize prA S (wz Z j) m = pr at q eb2
        refine ⟨_, rfl, _, rfl, _, rfl, sa, us, _, _, rfl, rfl, SqT.of es, atI_nat eu, sa2, _, 1, _, rfl, rfl, SqT.of e1, rfl, _, rfl, _, _, rfl, rfl, pa, ws, _, _, rfl, rfl, SqT.of e2, by rw [em]; exact atI_nat ex, b, _, 2, _, rfl, rfl, SqT.of eb2, rfl, _, _, rfl, rfl, ?_⟩
        refine ⟨_, rfl, ba, _, 1, _, rfl, rfl, SqT.of eb, rfl, _, _, rfl, rfl, _, rfl, ?_⟩
        refine ifD (fun c3 => ?_) (fun c3 => ?_)
        · have c3 : (0 : Int) < (k : Int) := c3
          rw [if_pos (show 0 < k by omega)] at q
          refine ⟨_, rfl, _, rfl, _, _, rfl, rfl, ?_⟩
          refine ⟨_, rfl, ?_⟩
          exact Eq.mp (congrArg (fun v => Q v H) (congrArg V.int (by dsimp only; rw [e0]; show ((mm + (pr + L) : Nat) : Int) = _; omega))) q
        · have c3 : ¬ (0 : Int) < (k : Int) := c3
          rw [if_neg (show ¬ 0 < k by omega)] at q
          refine ⟨_, rfl, ?_⟩
          exact Eq.mp (congrArg (fun v => Q v H) (congrArg V.int (by dsimp only; rw [e0]; show ((mm + (pr + 0) : Nat) : Int) = _; omega))) q
      · have c2 : ¬ (0 : Int) < (m : Int) := c2
        rw [if_neg (show ¬ 0 < m by omega)] at q
        refine ⟨_, rfl, ?_⟩
        exact Eq.mp (congrArg (fun v => Q v H) (congrArg V.int (by rw [e0]; show ((mm + 0 : Nat) : Int) = _; omega))) q
end
end Vf

set_option Elab.async false
set_option linter.all false
set_option maxRecDepth 100000
set_option maxHeartbeats 4000000
namespace Vf
open PySem PySem.Spec PyProof.Rows L2 TL
theorem after_len {S : Sty} {Z : List (List Nat)} {i k : Nat} (ok : WdsOk S Z) : (afterL S Z i k).length ≤ 40 * 20 + 1 := by
  unfold afterL
  rw [List.length_append]
  have h : ∀ (l : List Nat), (∀ t ∈ l, i + t < Z.length) → (l.flatMap fun t => headL i t ++ innerL S Z i k t).length ≤ l.length * 20 := fun l => by
    induction l with
    | nil => intro _; exact Nat.zero_le _
    | cons a r ih =>
      intro hl
      rw [List.flatMap_cons, List.length_append, List.length_cons, Nat.succ_mul]
      have h1 := ih fun t ht => hl t (List.mem_cons_of_mem _ ht)
      have h2 := ok.pl _ (wz_mem (hl a List.mem_cons_self))
      have h3 : (headL i a ++ innerL S Z i k a).length ≤ 20 := by
        rw [List.length_append]
        unfold headL innerL
        rw [List.length_map, List.length_range]
        split
        · show 0 + _ ≤ _; omega
        · show 1 + _ ≤ _; omega
      omega
  have h2 := h (List.range (Z.length - i)) fun t ht => by have := List.mem_range.mp ht; omega
  rw [List.length_range] at h2
  have := ok.ln
  show _ + 1 ≤ _
  omega
theorem ends_flen {M : Nat} {S : Sty} {Z : List (List Nat)} {i k : Nat} (ok : WdsOk S Z) : (endsF M S Z i k).length ≤ 40 * 20 + 1 := Nat.le_trans (List.length_filterMap_le _ _) (after_len ok)
section
variable {P : Program} {w : World} {K : PySem.W.Frag} {mg : Str → Option Value} {base : Heap}
def spLines : Sp := fun vs H Q _ => ∃ (sa ba : Addr) (us : List V) (S : Sty) (Z : List (List Nat)) (M L i k : Nat), vs = [nV M, nV L, .ref sa, .ref ba] ∧ H sa = some (.tup us) ∧ LV (ShV S H) us Z ∧ WdsOk S Z ∧ M ≤ 1000000 ∧ H ba = some (.tup [nV i, nV k]) ∧ i < Z.length ∧ k ≤ nP S (wz Z i) ∧
  ∀ H' l zs, Same H H' → H l = none → H' l = some (.lst zs) → LV (EnV H') zs (linesF M L S Z i k) → Q (.ref l) H'
theorem ok_lines (T : Txt K mg) : FnOk P w K mg base CX0 3 T.a_lines_from T.d_lines_from ["measure", "ladder", "shapes", "begin"] spLines := by
  have G_ends_from : FnOk P w K mg base CX0 2 T.a_ends_from T.d_ends_from ["measure", "shapes", "begin"] spEndsFrom := ok_ends_from T
  have G_cost : FnOk P w K mg base CX0 1 T.a_cost T.d_cost ["measure", "ladder", "shapes", "begin", "end", "width"] spLCost := ok_lcost T
  refine T.D_lines_from.F.ok sc_lines_from (fun vs H Q E h => ?_) (fun cdv A outer s H vs Q E hr h => ?_)
  · obtain ⟨_, _, _, _, _, _, _, _, _, rfl, _⟩ := h
    rfl
  · obtain ⟨sa, ba, us, S, Z, M, L, i, k, rfl, es, lv, ok, hM, eb, hi, hk, q⟩ := h
    refine ⟨_, (pss_cons (ps_set (i := 4) sc_lines_from.nd rfl (.inl rfl) (pe_call G_ends_from (hr.mono (by decide)) (by rfl) T.D_ends_from.G T.D_ends_from.F.kp T.D_ends_from.B .nil pass0 (pa_cons (pv 0) (pa_cons (pv 2) (pa_cons (pv 3) pa_nil)))))
      (pss_one (ps_ret (pe_lc (own := [("end", 5), ("width", 6)]) (g := (gTup K 2 (gCons (gName 5) (gCons (gName 6) gNil)))) (tt := tYes) rfl sc_lines_from.nd (pi_list (pv 4)) (blkOk_by (own := [("end", 5), ("width", 6)]) (N := ["measure", "ladder", "shapes", "begin", "ends", "end", "width"]) (sc := (defScope s_lines_from)) (by decide +kernel)) (fun _ _ _ _ _ => (pg_tup (by rfl) (pgs_cons (pg_name (i := 5) sc_lines_from.nd rfl (.inl rfl)) (pgs_cons (pg_name (i := 6) sc_lines_from.nd rfl (.inl rfl)) pgs_nil)))) (fun _ _ _ _ _ => pts_nil) (fun _ _ _ _ _ => (pe_tup (pa_cons (pv 5) (pa_cons (pe_call G_cost (hr.mono (by decide)) (by rfl) T.D_cost.G T.D_cost.F.kp T.D_cost.B .nil pass0 (pa_cons (pv 0) (pa_cons (pv 1) (pa_cons (pv 2) (pa_cons (pv 3) (pa_cons (pv 5) (pa_cons (pv 6) pa_nil))))))) pa_nil)))))))), ?_⟩
    refine ⟨_, rfl, _, rfl, _, rfl, sa, ba, us, S, Z, M, i, k, rfl, es, lv, ok, eb, hi, hk, fun H1 l zs k1 nl el lz => ?_⟩
    refine ⟨_, rfl, l, rfl, ⟨_, SqL.of el⟩, fun D nD => ?_⟩
    have hmem : ∀ y ∈ endsF M S Z i k, ((y.1 = (Z.length, 0)) ∨ (y.1.1 < Z.length ∧ y.1.2 ≤ nP S (wz Z y.1.1))) ∧ y.2 ≤ M := fun y hy => ⟨after_mem hi (ends_mem hy).1, (ends_mem hy).2⟩
    have hlen := ends_flen (M := M) (i := i) (k := k) ok
    have hlf : linesF M L S Z i k = (endsF M S Z i k).map fun y => (y.1, costQ M L S Z k y.1 y.2) := rfl
    generalize endsF M S Z i k = ef at lz hmem hlen hlf
    refine lc_it (walk_list (K := K) (a := l) (xs := zs)) (fun t H' => ∃ ws, H' D = some (.lst ws) ∧ LV (EnV H') ws ((ef.take t).map fun y => (y.1, costQ M L S Z k y.1 y.2)) ∧ Same H1 H') ⟨[], upd_same, LV.nil, same_upd (Same.refl H1) nD⟩ ?_ ?_ ?_
    · rintro t H' _ ⟨_, _, _, kk⟩
      exact SqL.of (kk _ _ el)
    · rintro t x Ha H2 ht ⟨ws, ed, lw, k2⟩ ⟨rfl, hx⟩
      obtain ⟨y, ey, b, b2, rfl, eb1, eb2⟩ := lz.at hx
      have ⟨hy1, hy2⟩ := hmem y (List.mem_of_getElem? ey)
      have hty : t < ef.length := (List.getElem?_eq_some_iff.mp ey).1
      have k12 := k1.trans k2
      have lwl := lw.1
      rw [List.length_map, List.length_take] at lwl
      refine ⟨b, _, rfl, SqT.of (k2 _ _ eb1), rfl, _, _, rfl, _, _, rfl, rfl, rfl, ?_⟩
      refine ⟨_, rfl, _, rfl, _, rfl, _, rfl, _, rfl, _, rfl, _, rfl, sa, ba, b2, us, S, Z, M, L, i, k, y.1.1, y.1.2, y.2, rfl, k12 _ _ es, lv.mono fun _ _ z => z.kt fun _ _ e => k12 _ _ e, k12 _ _ eb, k2 _ _ eb2, hy1, hy2, hM, fun H3 k3 => ?_⟩
      refine ⟨by show 2 ≤ sizeLine; decide, fun p np => ?_⟩
      have k4 := same_upd (o := .tup [.ref b2, nV (costQ M L S Z k (y.1.1, y.1.2) y.2)]) k3 np
      have ep : upd H3 p (.tup [.ref b2, nV (costQ M L S Z k (y.1.1, y.1.2) y.2)]) p = some (.tup [.ref b2, nV (costQ M L S Z k y.1 y.2)]) := upd_same
      generalize upd H3 p (.tup [.ref b2, nV (costQ M L S Z k (y.1.1, y.1.2) y.2)]) = H4 at k4 ep
      have ed4 := k4 _ _ ed
      have kt := kt_mut (zs := ws ++ [V.ref p]) ed4
      refine ⟨ws, ed4, szN (by omega), ws ++ [.ref p], upd_same, ?_, same_mut (k2.trans k4) nD⟩
      rw [show ef.take (t + 1) = ef.take t ++ [y] by rw [List.take_succ, ey]; rfl, List.map_append]
      exact LV.snoc (lw.mono fun _ _ z => (EnV.kt z fun _ _ e => k4 _ _ e).kt kt) ⟨p, b2, rfl, kt _ _ ep, kt _ _ (k4 _ _ (k2 _ _ eb2))⟩
    · rintro H2 ⟨ws, ed, lw, k2⟩
      rw [lz.1, List.take_length] at lw
      exact q H2 D ws (k1.trans k2) (Same.free k1 nD) ed (by rw [hlf]; exact lw)
theorem row_len (S : Sty) (Z : List (List Nat)) (i : Nat) : (rowL S Z i).length = nP S (wz Z i) + 1 := by
  unfold rowL; rw [List.length_map, List.length_range]
theorem pos_len {S : Sty} {Z : List (List Nat)} (ok : WdsOk S Z) : ∀ n, n ≤ Z.length → ((List.range n).flatMap (rowL S Z)).length ≤ n * 17
  | 0, _ => Nat.zero_le _
  | n + 1, h => by
    rw [List.range_succ, List.flatMap_append, List.flatMap_cons, List.flatMap_nil, List.append_nil, List.length_append, row_len]
    have := pos_len ok n (by omega)
    have := ok.pl _ (wz_mem (show n < Z.length by omega))
    omega
def spPositions : Sp := fun vs H Q _ => ∃ (sa : Addr) (us : List V) (S : Sty) (Z : List (List Nat)), vs = [.ref sa] ∧ H sa = some (.tup us) ∧ LV (ShV S H) us Z ∧ WdsOk S Z ∧
  ∀ H' p vs, Same H H' → H p = none → H' p = some (.tup vs) → LV (FgV H') vs (posL S Z) → Q (.ref p) H'
theorem ok_positions (T : Txt K mg) : FnOk P w K mg base CX0 1 T.a_positions T.d_positions ["shapes"] spPositions := by
  refine T.D_positions.F.ok sc_positions (fun vs H Q E h => ?_) (fun cdv A outer s H vs Q E hr h => ?_)
  · obtain ⟨_, _, _, _, rfl, _⟩ := h
    rfl
  · obtain ⟨sa, us, S, Z, rfl, es, lv, ok, q⟩ := h
    have lus := lv.1
    have l40 := ok.ln
    refine ⟨_, (pss_cons (ps_setLc2 (i := 1) (own := [("at", 2), ("_", 3), ("partings", 4), ("parting", 5)]) (vs1 := [5]) (g := (gTup K 2 (gCons (gName 2) (gCons (gTup K 2 (gCons (gName 3) (gCons (gName 4) gNil))) gNil)))) (g1 := (gName 5)) (tt := tYes) (tt1 := tYes) (wi1 := iRng1 _) rfl sc_positions.nd rfl rfl (sw_true rfl rfl rfl (by decide +kernel)) (pi_enumT (by rfl) T.n_enumerate (pa_cons (pv 0) pa_nil)) (blkOk_by (own := [("at", 2), ("_", 3), ("partings", 4), ("parting", 5)]) (N := ["shapes", "found", "at", "_", "partings", "parting"]) (sc := (defScope s_positions)) (by decide +kernel)) (by decide) (fun _ _ _ _ _ => (pg_tup (by rfl) (pgs_cons (pg_name (i := 2) sc_positions.nd rfl (.inl rfl)) (pgs_cons (pg_tup (by rfl) (pgs_cons (pg_name (i := 3) sc_positions.nd rfl (.inl rfl)) (pgs_cons (pg_name (i := 4) sc_positions.nd rfl (.inl rfl)) pgs_nil))) pgs_nil)))) (fun _ _ _ _ _ => pts_nil) (fun _ _ _ _ _ => (pi_range1 (by rfl) T.n_range (pa_cons (pe_op op_add (pe_callB (show CallR _ _ (rLenK K) from call_len_seq) (by rfl) T.n_len PySem.boot_len (pa_cons (pv 4) pa_nil)) pe_int) pa_nil))) (fun _ _ _ _ _ => (pg_name (i := 5) sc_positions.nd rfl (.inl rfl))) (fun _ _ _ _ _ => pts_nil) (fun _ _ _ _ _ => (pe_tup (pa_cons (pv 2) (pa_cons (pv 5) pa_nil)))))
      (pss_one (ps_ret (pe_callTy call_tuple_of (by rfl) T.n_tuple (by decide +kernel) (pa_cons (pe_op op_cat (pv 1) (pe_lst (pa_cons (pe_tup (pa_cons (pe_callB call_len_seq (by rfl) T.n_len PySem.boot_len (pa_cons (pv 0) pa_nil)) (pa_cons pe_int pa_nil))) pa_nil))) pa_nil))))), ?_⟩
    refine ⟨_, rfl, sa, us, rfl, SqT.of es, fun D nD => ?_⟩
    refine lc2_out (walk_enumT (K := K) (a := sa) (xs := us)) (fun i H' => ∃ zs, H' D = some (.lst zs) ∧ LV (FgV H') zs ((List.range i).flatMap (rowL S Z)) ∧ Same H H') ⟨[], upd_same, LV.nil, same_upd (Same.refl H) nD⟩ ?_ ?_ ?_
    · rintro i H' _ ⟨_, _, _, k⟩
      exact SqT.of (k _ _ es)
    · rintro i x H1 H2 hi ⟨zs, ed, lz, k1⟩ ⟨T', x1, y1, rfl, hT, rfl, hx1, hy1⟩
      have hx1 := Option.some.inj hx1
      subst hx1
      have hiZ : i < Z.length := by omega
      obtain ⟨z, ez, sa2, pa, ws, rfl, e1, e2, pl⟩ := lv.at hy1
      have hz : z = wz Z i := by
        rw [wz_at hiZ] at ez
        exact (Option.some.inj ez).symm
      subst hz
      have hn16 := ok.pl _ (wz_mem hiZ)
      have plen : ws.length = nP S (wz Z i) := pl.1
      have nDT : D ≠ T' := ne_of_none ed hT
      have k2 := same_upd (o := .tup [.int (i : Nat), .ref sa2]) (Same.refl H1) hT
      have eT : upd H1 T' (.tup [.int (i : Nat), .ref sa2]) T' = some (.tup [.int (i : Nat), .ref sa2]) := upd_same
      generalize upd H1 T' (.tup [.int (i : Nat), .ref sa2]) = H2 at k2 eT
      have k12 := k1.trans k2
      refine ⟨T', _, rfl, SqT.of eT, rfl, _, _, rfl, _, _, rfl, sa2, _, rfl, SqT.of (k12 _ _ e1), rfl, _, _, rfl, _, _, rfl, rfl, rfl, rfl, ?_⟩
      have lzl := lz.1
      have pl17 := pos_len ok i (by omega)
      have pl680 : i * 17 ≤ 40 * 17 := Nat.mul_le_mul_right _ (by omega)
      refine ⟨_, rfl, pa, ws, rfl, .inr (SqT.of (k12 _ _ e2)), _, _, rfl, rfl, ((nP S (wz Z i) + 1 : Nat) : Int), by rw [plen]; rfl, by omega, by omega, ?_⟩
      rw [Int.toNat_natCast]
      have er : (List.range (i + 1)).flatMap (rowL S Z) = (List.range i).flatMap (rowL S Z) ++ rowL S Z i := by
        rw [List.range_succ, List.flatMap_append, List.flatMap_cons, List.flatMap_nil, List.append_nil]
      rw [er]
      refine lc2_in walk_range (fun u H' => ∃ zs2, H' D = some (.lst zs2) ∧ LV (FgV H') zs2 ((List.range i).flatMap (rowL S Z) ++ (rowL S Z i).take u) ∧ Same H H') ⟨zs, k2 _ _ ed, by rw [List.take_zero, List.append_nil]; exact lz.mono fun _ _ z => z.same k2, k12⟩ (fun _ _ _ _ => trivial) ?_ ?_
      · rintro u y H4 H5 hu ⟨zs2, ed4, lz4, k4⟩ ⟨rfl, hy⟩
        have hy : y = nV u := by rw [hy]; exact int0 u
        subst hy
        refine ⟨rfl, _, rfl, _, rfl, by show 2 ≤ sizeLine; decide, fun p np => ?_⟩
        have k5 := same_upd (o := .tup [V.int (i : Nat), nV u]) (Same.refl H5) np
        have ep : upd H5 p (.tup [V.int (i : Nat), nV u]) p = some (.tup [nV i, nV u]) := upd_same
        generalize upd H5 p (.tup [V.int (i : Nat), nV u]) = H6 at k5 ep
        have ed6 := k5 _ _ ed4
        have kt := kt_mut (zs := zs2 ++ [V.ref p]) ed6
        have ll := lz4.1
        rw [List.length_append, List.length_take, row_len] at ll
        refine ⟨zs2, ed6, szN (by omega), zs2 ++ [.ref p], upd_same, ?_, same_mut (k4.trans k5) nD⟩
        have e : (rowL S Z i).take (u + 1) = (rowL S Z i).take u ++ [(i, u)] := by
          rw [List.take_succ]
          unfold rowL
          rw [List.getElem?_map, List.getElem?_range hu]; rfl
        rw [e, ← List.append_assoc]
        exact LV.snoc (lz4.mono fun x r z => (z.same k5).kt kt) ⟨p, rfl, kt _ _ ep⟩
      · rintro H4 ⟨zs2, ed4, lz4, k4⟩
        rw [List.take_of_length_le (l := rowL S Z i) (by rw [row_len]; exact Nat.le_refl _)] at lz4
        exact ⟨zs2, ed4, lz4, k4⟩
    · rintro H1 ⟨zs, ed, lz, k1⟩
      rw [lus] at lz
      have lzl := lz.1
      have pl17 := pos_len ok Z.length (Nat.le_refl _)
      have pl680 : Z.length * 17 ≤ 40 * 17 := Nat.mul_le_mul_right _ (by omega)
      refine ⟨_, rfl, _, rfl, sa, us, rfl, .inr (SqT.of (k1 _ _ es)), by show 2 ≤ sizeLine; decide, fun p np => ?_⟩
      have k2 := same_upd (o := .tup [V.int (us.length : Nat), V.int 0]) (Same.refl H1) np
      have ep : upd H1 p (.tup [V.int (us.length : Nat), V.int 0]) p = some (.tup [nV Z.length, nV 0]) := by rw [upd_same, lus]; rfl
      generalize upd H1 p (.tup [V.int (us.length : Nat), V.int 0]) = H2 at k2 ep
      refine ⟨by show 1 ≤ sizeLine; decide, fun p2 np2 => ?_⟩
      have k3 := same_upd (o := .lst [V.ref p]) (Same.refl H2) np2
      have ep2 : upd H2 p2 (.lst [V.ref p]) p2 = some (.lst [V.ref p]) := upd_same
      generalize upd H2 p2 (.lst [V.ref p]) = H3 at k3 ep2
      have k23 := k2.trans k3
      refine ⟨D, p2, zs, [.ref p], rfl, rfl, k23 _ _ ed, ep2, by show _ + 1 ≤ _; exact Nat.le_of_lt (szN (by omega)), fun p3 np3 => ?_⟩
      have k4 := same_upd (o := .lst (zs ++ [V.ref p])) (Same.refl H3) np3
      have ep3 : upd H3 p3 (.lst (zs ++ [V.ref p])) p3 = some (.lst (zs ++ [V.ref p])) := upd_same
      generalize upd H3 p3 (.lst (zs ++ [V.ref p])) = H4 at k4 ep3
      refine ⟨p3, _, rfl, .inl ⟨SqL.of ep3, fun t nt => ?_⟩⟩
      have k5 := same_upd (o := .tup (zs ++ [V.ref p])) (Same.refl H4) nt
      have k15 := (k23.trans k4).trans k5
      refine q _ t _ (k1.trans k15) (Same.free (k1.trans (k23.trans k4)) nt) upd_same ?_
      exact LV.snoc (lz.mono fun _ _ z => z.same k15) ⟨p, rfl, ((k3.trans k4).trans k5) _ _ ep⟩
end
end Vf

set_option Elab.async false
set_option linter.all false
set_option maxRecDepth 100000
set_option maxHeartbeats 4000000
namespace Vf
open PySem PySem.Spec PyProof.Rows L2 TL
theorem idxOf_at {ps : List (Nat × Nat)} (inj : Inj ps) {b : Nat} {x : Nat × Nat} (h : ps[b]? = some x) : ps.idxOf x = b := by
  have m : x ∈ ps := List.mem_of_getElem? h
  have l : ps.idxOf x < ps.length := List.idxOf_lt_length_iff.mpr m
  refine inj _ _ x ?_ h
  rw [List.getElem?_eq_getElem l, List.getElem_idxOf]
def LtP (a b : Nat × Nat) : Prop := a.1 < b.1 ∨ (a.1 = b.1 ∧ a.2 < b.2)
theorem pos_asc (S : Sty) (Z : List (List Nat)) : (posL S Z).Pairwise LtP := by
  unfold posL
  rw [List.pairwise_append]
  refine ⟨?_, List.pairwise_singleton _ _, fun a ha b hb => ?_⟩
  · rw [List.pairwise_flatMap]
    refine ⟨fun i _ => ?_, List.pairwise_lt_range.imp fun {i j} h x hx y hy => ?_⟩
    · unfold rowL
      rw [List.pairwise_map]
      exact List.pairwise_lt_range.imp fun h => .inr ⟨rfl, h⟩
    · unfold rowL at hx hy
      obtain ⟨u, _, rfl⟩ := List.mem_map.mp hx
      obtain ⟨v, _, rfl⟩ := List.mem_map.mp hy
      exact .inl h
  · rw [List.mem_singleton.mp hb]
    obtain ⟨i, hi, hx⟩ := List.mem_flatMap.mp ha
    unfold rowL at hx
    obtain ⟨u, _, rfl⟩ := List.mem_map.mp hx
    exact .inl (List.mem_range.mp hi)
theorem pos_inj (S : Sty) (Z : List (List Nat)) : Inj (posL S Z) := by
  intro i j x hi hj
  obtain ⟨li, ei⟩ := List.getElem?_eq_some_iff.mp hi
  obtain ⟨lj, ej⟩ := List.getElem?_eq_some_iff.mp hj
  have pw := List.pairwise_iff_getElem.mp (pos_asc S Z)
  rcases Nat.lt_trichotomy i j with c | c | c
  · have h : LtP _ _ := pw i j li lj c
    rw [ei, ej] at h
    rcases h with h | h <;> omega
  · exact c
  · have h : LtP _ _ := pw j i lj li c
    rw [ei, ej] at h
    rcases h with h | h <;> omega
theorem pos_has {S : Sty} {Z : List (List Nat)} {y : Nat × Nat} (h : y = (Z.length, 0) ∨ (y.1 < Z.length ∧ y.2 ≤ nP S (wz Z y.1))) : ∃ b : Nat, (posL S Z)[b]? = some y := by
  have m : y ∈ posL S Z := by
    unfold posL
    rcases h with h | ⟨h1, h2⟩
    · exact List.mem_append_right _ (List.mem_singleton.mpr h)
    · refine List.mem_append_left _ (List.mem_flatMap.mpr ⟨y.1, List.mem_range.mpr h1, ?_⟩)
      unfold rowL
      exact List.mem_map.mpr ⟨y.2, List.mem_range.mpr (by omega), rfl⟩
  obtain ⟨i, hi, e⟩ := List.mem_iff_getElem.mp m
  exact ⟨i, by rw [List.getElem?_eq_getElem hi, e]⟩
theorem posL_len {S : Sty} {Z : List (List Nat)} (ok : WdsOk S Z) : (posL S Z).length ≤ 681 := by
  unfold posL
  rw [List.length_append]
  have := pos_len ok Z.length (Nat.le_refl _)
  have := ok.ln
  show _ + 1 ≤ _
  omega
theorem pos_body {S : Sty} {Z : List (List Nat)} {a : Nat} {x : Nat × Nat} (h : (posL S Z)[a]? = some x) (ha : a + 1 < (posL S Z).length) : x.1 < Z.length ∧ x.2 ≤ nP S (wz Z x.1) := by
  unfold posL at h ha
  rw [List.length_append] at ha
  rw [List.getElem?_append_left (by show a < _; have : ([(Z.length, 0)] : List (Nat × Nat)).length = 1 := rfl; omega)] at h
  obtain ⟨i, hi, hx⟩ := List.mem_flatMap.mp (List.mem_of_getElem? h)
  unfold rowL at hx
  obtain ⟨u, hu, rfl⟩ := List.mem_map.mp hx
  exact ⟨List.mem_range.mp hi, by show u ≤ nP S (wz Z i); have := List.mem_range.mp hu; omega⟩
theorem cut_lastQ (xs : List V) : cutV xs none (some (-1)) = xs.take (xs.length - 1) := by
  unfold cutV
  have e1 : HT.sIx xs.length 0 none = 0 := rfl
  have e2 : HT.sIx xs.length xs.length (some (-1)) = xs.length - 1 := by
    unfold HT.sIx
    simp
    omega
  rw [e1, e2, List.drop_zero, Nat.sub_zero]
theorem szL {n : Nat} (h : n < 1000000) : n < sizeLine := Nat.lt_of_lt_of_le h (by decide)
def idxQ (S : Sty) (Z : List (List Nat)) (x : Nat × Nat) : Nat := (posL S Z).idxOf x
def rowQ (M L : Nat) (S : Sty) (Z : List (List Nat)) (a : Nat) : List (Nat × Nat × Nat) := (linesF M L S Z ((posL S Z).getD a (0, 0)).1 ((posL S Z).getD a (0, 0)).2).map fun y => (a, idxQ S Z y.1, y.2)
def netQ (M L : Nat) (S : Sty) (Z : List (List Nat)) : List (Nat × Nat × Nat) := (List.range ((posL S Z).length - 1)).flatMap (rowQ M L S Z)
section
variable {P : Program} {w : World} {K : PySem.W.Frag} {mg : Str → Option Value} {base : Heap}
def spLNet : Sp := fun vs H Q _ => ∃ (sa : Addr) (us : List V) (S : Sty) (Z : List (List Nat)) (M L : Nat), vs = [nV M, nV L, .ref sa] ∧ H sa = some (.tup us) ∧ LV (ShV S H) us Z ∧ WdsOk S Z ∧ M ≤ 1000000 ∧
  ∀ H' p t us, Same H H' → H' p = some (.tup [nV (posL S Z).length, .ref t]) → H' t = some (.tup us) → LV (ArcV H') us (netQ M L S Z) → Q (.ref p) H'
theorem ok_line_net (T : Txt K mg) : FnOk P w K mg base CX0 4 T.a_line_net T.d_line_net ["measure", "ladder", "shapes"] spLNet := by
  have G_positions : FnOk P w K mg base CX0 1 T.a_positions T.d_positions ["shapes"] spPositions := ok_positions T
  have G_lines_from : FnOk P w K mg base CX0 3 T.a_lines_from T.d_lines_from ["measure", "ladder", "shapes", "begin"] spLines := ok_lines T
  refine T.D_line_net.F.ok sc_line_net (fun vs H Q E h => ?_) (fun cdv A outer s H vs Q E hr h => ?_)
  · obtain ⟨_, _, _, _, _, _, rfl, _⟩ := h
    rfl
  · obtain ⟨sa, sus, S, Z, M, L, rfl, es, slv, ok, hM, q⟩ := h
    have lpb := posL_len ok
    have inj := pos_inj S Z
    refine ⟨_, (pss_cons (ps_set (i := 3) sc_line_net.nd rfl (.inl rfl) (pe_call G_positions (hr.mono (by decide)) (by rfl) T.D_positions.G T.D_positions.F.kp T.D_positions.B .nil pass0 (pa_cons (pv 2) pa_nil)))
      (pss_cons (ps_set (i := 4) sc_line_net.nd rfl (.inr rfl) (pe_dcT (own := [("number", 8), ("place", 9)]) (g := (gTup K 2 (gCons (gName 8) (gCons (gName 9) gNil)))) (tt := tYes) rfl (hu0 hr) sc_line_net.nd (pi_enumT (by rfl) T.n_enumerate (pa_cons (pv 3) pa_nil)) (blkOk_by (own := [("number", 8), ("place", 9)]) (N := ["measure", "ladder", "shapes", "places", "numbers", "arcs", "tail", "begin", "number", "place", "end", "cost"]) (sc := (defScope s_line_net)) (by decide +kernel)) (fun _ _ _ _ _ => (pg_tup (by rfl) (pgs_cons (pg_name (i := 8) sc_line_net.nd rfl (.inl rfl)) (pgs_cons (pg_name (i := 9) sc_line_net.nd rfl (.inl rfl)) pgs_nil)))) (fun _ _ _ _ _ => pts_nil) (fun _ _ _ _ _ => (pv 9)) (fun _ _ _ _ _ => (pv 8))))
      (pss_cons (ps_set (i := 5) sc_line_net.nd rfl (.inl rfl) (pe_lst pa_nil))
      (pss_cons (ps_for PassesOwn.never rfl (pi_enumT (by rfl) T.n_enumerate (pa_cons (pe_slice sl_tupA (pv 3) po_none (po_some (pe_un un_neg pe_int))) pa_nil)) (pg_tup (by rfl) (pgs_cons (pg_name (i := 6) sc_line_net.nd rfl (.inr rfl)) (pgs_cons (pg_name (i := 7) sc_line_net.nd rfl (.inl rfl)) pgs_nil))) (pss_one (ps_expr (pe_bm PySem.F.plainAttrs_list PySem.F.slot_list_extend PySem.F.type_list_extend mt_extend (pv 5) (pa_cons (pe_lc (own := [("end", 10), ("cost", 11)]) (g := (gTup K 2 (gCons (gName 10) (gCons (gName 11) gNil)))) (tt := tYes) rfl sc_line_net.nd (pi_list (pe_call G_lines_from (hr.mono (by decide)) (by rfl) T.D_lines_from.G T.D_lines_from.F.kp T.D_lines_from.B .nil pass0 (pa_cons (pv 0) (pa_cons (pv 1) (pa_cons (pv 2) (pa_cons (pv 7) pa_nil)))))) (blkOk_by (own := [("end", 10), ("cost", 11)]) (N := ["measure", "ladder", "shapes", "places", "numbers", "arcs", "tail", "begin", "number", "place", "end", "cost"]) (sc := (defScope s_line_net)) (by decide +kernel)) (fun _ _ _ _ _ => (pg_tup (by rfl) (pgs_cons (pg_name (i := 10) sc_line_net.nd rfl (.inl rfl)) (pgs_cons (pg_name (i := 11) sc_line_net.nd rfl (.inl rfl)) pgs_nil)))) (fun _ _ _ _ _ => pts_nil) (fun _ _ _ _ _ => (pe_tup (pa_cons (pv 6) (pa_cons (pe_dget (hu1 hr) (pv 4) (pv 10) (fun _ _ => rfl)) (pa_cons (pv 11) pa_nil)))))) pa_nil)))))
      (pss_one (ps_ret (pe_tup (pa_cons (pe_callB call_len_seq (by rfl) T.n_len PySem.boot_len (pa_cons (pv 3) pa_nil)) (pa_cons (pe_callTy call_tuple_of (by rfl) T.n_tuple (by decide +kernel) (pa_cons (pv 5) pa_nil)) pa_nil))))))))), ?_⟩
    refine ⟨_, rfl, sa, sus, S, Z, rfl, es, slv, ok, fun H2 pa us k2 n2 e2 lv => ?_⟩
    have lvn := lv.1
    refine ⟨_, rfl, pa, us, rfl, SqT.of e2, fun nu nnu => ?_⟩
    refine dcT_it (walk_enumT (K := K) (a := pa) (xs := us)) (fun i H' => ∃ kvs, H' nu = some (.dT kvs) ∧ kvs.length ≤ i ∧ (∀ m x, m < i → (posL S Z)[m]? = some x → valV kvs (keyP x) = some (nV m)) ∧ Same H2 H') ⟨[], upd_same, Nat.le_refl _, fun m x h => absurd h (Nat.not_lt_zero _), same_upd (Same.refl H2) nnu⟩ ?_ ?_ ?_
    · rintro i H' _ ⟨_, _, _, _, k⟩
      exact SqT.of (k _ _ e2)
    · rintro i x Ha Hb hi ⟨kvs, ed, lk, hv, k⟩ ⟨T', x1, y1, rfl, hT, rfl, hx1, hy1⟩
      have hx1 := Option.some.inj hx1
      subst hx1
      obtain ⟨r, er, b, rfl, eb⟩ := lv.at hy1
      have k2' := same_upd (o := .tup [.int (i : Nat), .ref b]) k hT
      have eT : upd Ha T' (.tup [.int (i : Nat), .ref b]) T' = some (.tup [.int (i : Nat), .ref b]) := upd_same
      have ed2 : upd Ha T' (.tup [.int (i : Nat), .ref b]) nu = some (.dT kvs) := by rw [upd_ne (ne_of_none ed hT)]; exact ed
      generalize upd Ha T' (.tup [.int (i : Nat), .ref b]) = Hc at k2' eT ed2
      refine ⟨T', _, rfl, SqT.of eT, rfl, _, _, rfl, _, _, rfl, rfl, rfl, _, rfl, _, rfl, ?_⟩
      refine ⟨kvs, keyP r, b, rfl, k2' _ _ eb, ed2, szN (by omega), _, upd_same, Nat.le_trans (length_putK _ _ _) (Nat.succ_le_succ lk), fun m x hm hx => ?_, same_mut k2' nnu⟩
      rw [valV_put]
      by_cases c : m = i
      · rw [c, er] at hx
        rw [Option.some.inj hx, if_pos rfl, c]; rfl
      · have cn : ¬ keyP x = keyP r := fun y => c (inj _ _ _ hx (by rw [keyP_inj y]; exact er))
        rw [if_neg cn]
        exact hv m x (by omega) hx
    · rintro H3 ⟨kvs, ed3, _, hv, k3⟩
      rw [lvn] at hv
      refine ⟨by show 0 ≤ sizeLine; decide, fun ar nar => ?_⟩
      have k4 := same_upd (o := .lst []) (Same.refl H3) nar
      have ea4 : upd H3 ar (.lst []) ar = some (.lst []) := upd_same
      generalize upd H3 ar (.lst []) = H4 at k4 ea4
      have k24 := k3.trans k4
      refine ⟨_, rfl, 1, rfl, _, rfl, slA_any (k24 _ _ e2) fun C H4b k4b eC => ?_⟩
      rw [cut_lastQ] at eC
      have k34 := k24.trans k4b
      have len1 : (us.take (us.length - 1)).length = (posL S Z).length - 1 := by rw [List.length_take]; omega
      refine ⟨C, _, rfl, SqT.of eC, ?_⟩
      refine for_it (walk_enumT (K := K) (a := C) (xs := us.take (us.length - 1))) (fun t σ' H' => ∃ (x6 x7 x8 x9 x10 x11 : Option V) (zs : List V), σ' = [some (nV M), some (nV L), some (.ref sa), some (.ref pa), some (.ref nu), some (.ref ar), x6, x7, x8, x9, x10, x11] ∧ Same H3 H' ∧ H' C = some (.tup (us.take (us.length - 1))) ∧ H' ar = some (.lst zs) ∧ LV (ArcV H') zs ((List.range t).flatMap (rowQ M L S Z)) ∧ zs.length ≤ t * 801)
        ⟨none, none, none, none, none, none, [], rfl, k4.trans k4b, eC, k4b _ _ ea4, LV.nil, Nat.zero_le _⟩ ?_ ?_ ?_
      · rintro t σ' H' _ ⟨_, _, _, _, _, _, _, _, _, e, _⟩
        exact SqT.of e
      · rintro t x σ' H5 H6 ht ⟨x6, x7, x8, x9, x10, x11, zs, rfl, k5, eC5, e5, lz, lzs⟩ ⟨T', x1, y1, rfl, hT, rfl, hx1, hy1⟩
        have hx1 := Option.some.inj hx1
        subst hx1
        rw [len1] at ht
        have hy1 : (us.take (us.length - 1))[t]? = some y1 := hy1
        rw [List.getElem?_take_of_lt (by omega)] at hy1
        obtain ⟨r, er, b, rfl, eb⟩ := lv.at hy1
        have ⟨hr1, hr2⟩ := pos_body er (by omega)
        have k6 := same_upd (o := .tup [.int (t : Nat), .ref b]) (Same.refl H5) hT
        have eT : upd H5 T' (.tup [.int (t : Nat), .ref b]) T' = some (.tup [.int (t : Nat), .ref b]) := upd_same
        generalize upd H5 T' (.tup [.int (t : Nat), .ref b]) = H6 at k6 eT
        have k36 := k5.trans k6
        have k26 := k3.trans k36
        have e6 := k6 _ _ e5
        have lz6 : LV (ArcV H6) zs ((List.range t).flatMap (rowQ M L S Z)) := lz.mono fun _ _ y => y.mono fun _ _ e => k6 _ _ e
        refine ⟨T', _, rfl, SqT.of eT, rfl, _, _, rfl, _, _, rfl, rfl, ?_⟩
        refine ⟨.ref ar, rfl, .inl ⟨rfl, _, .inl (.inl e6)⟩, _, rfl, _, rfl, _, rfl, _, rfl, sa, b, sus, S, Z, M, L, r.1, r.2, rfl, (k2.trans k26) _ _ es, slv.mono fun _ _ z => z.kt fun _ _ e => (k2.trans k26) _ _ e, ok, hM, k26 _ _ eb, hr1, hr2, fun H7 l7 zs7 k7 n7 e7 lz7 => ?_⟩
        refine ⟨l7, rfl, ⟨_, SqL.of e7⟩, fun D2 nD2 => ?_⟩
        have el7 : ∀ y ∈ linesF M L S Z r.1 r.2, ∃ b : Nat, (posL S Z)[b]? = some y.1 := fun y hy => by
          unfold linesF at hy
          obtain ⟨y0, hy0, rfl⟩ := List.mem_map.mp hy
          exact pos_has (after_mem hr1 (ends_mem hy0).1)
        have hrow : rowQ M L S Z t = (linesF M L S Z r.1 r.2).map fun y => (t, idxQ S Z y.1, y.2) := by
          unfold rowQ
          rw [getD_of er]
        have rl : (linesF M L S Z r.1 r.2).length ≤ 801 := by
          unfold linesF
          rw [List.length_map]
          exact ends_flen ok
        have es2 : (List.range (t + 1)).flatMap (rowQ M L S Z) = (List.range t).flatMap (rowQ M L S Z) ++ rowQ M L S Z t := by
          rw [List.range_succ, List.flatMap_append, List.flatMap_cons, List.flatMap_nil, List.append_nil]
        rw [es2, hrow]
        generalize linesF M L S Z r.1 r.2 = cf at lz7 el7 rl
        refine lc_it (walk_list (K := K) (a := l7) (xs := zs7)) (fun i H' => ∃ ws, H' D2 = some (.lst ws) ∧ LV (ArcV H') ws ((cf.take i).map fun y => (t, idxQ S Z y.1, y.2)) ∧ Same H7 H') ⟨[], upd_same, LV.nil, same_upd (Same.refl H7) nD2⟩ ?_ ?_ ?_
        · rintro i H' _ ⟨_, _, _, k⟩
          exact SqL.of (k _ _ e7)
        · rintro i x Ha Hb hi ⟨ws, ed, lw, k⟩ ⟨rfl, hx⟩
          obtain ⟨y, ey, b3, b4, rfl, eb3, eb4⟩ := lz7.at hx
          obtain ⟨bi, ebi⟩ := el7 y (List.mem_of_getElem? ey)
          have hi : i < cf.length := (List.getElem?_eq_some_iff.mp ey).1
          have hvb := hv bi y.1 (List.getElem?_eq_some_iff.mp ebi).1 ebi
          have eix : idxQ S Z y.1 = bi := idxOf_at inj ebi
          have lws := lw.1
          rw [List.length_map, List.length_take] at lws
          have k8 := (k36.trans k7).trans k
          refine ⟨b3, _, rfl, SqT.of (k _ _ eb3), rfl, _, _, rfl, _, _, rfl, rfl, rfl, ?_⟩
          refine ⟨_, rfl, _, rfl, _, rfl, nu, nV bi, rfl, by rw [← hvb]; exact DGet.t (k8 _ _ ed3) (k := keyP y.1) (k _ _ eb4), _, rfl, by show 3 ≤ sizeLine; decide, fun p np => ?_⟩
          have k9 := same_upd (o := .tup [.int (t : Nat), nV bi, nV y.2]) (Same.refl Hb) np
          have ep : upd Hb p (.tup [.int (t : Nat), nV bi, nV y.2]) p = some (.tup [nV t, nV bi, nV y.2]) := upd_same
          generalize upd Hb p (.tup [.int (t : Nat), nV bi, nV y.2]) = Hc at k9 ep
          have kt := kt_mut (zs := ws ++ [V.ref p]) (k9 _ _ ed)
          refine ⟨ws, k9 _ _ ed, szN (by omega), ws ++ [.ref p], upd_same, ?_, same_mut (k.trans k9) nD2⟩
          rw [show cf.take (i + 1) = cf.take i ++ [y] by rw [List.take_succ, ey]; rfl, List.map_append, List.map_singleton, eix]
          exact LV.snoc (lw.mono fun _ _ z => z.mono fun a xs e => kt a xs (k9 _ _ e)) ⟨p, rfl, kt _ _ ep⟩
        · rintro Hd ⟨ws, ed, lw, kd⟩
          rw [lz7.1, List.take_length] at lw
          have k6d := k7.trans kd
          have lwl := lw.1
          rw [List.length_map] at lwl
          have e6d := k6d _ _ e6
          have t680 : t * 801 ≤ 680 * 801 := Nat.mul_le_mul_right _ (by omega)
          have kt := kt_mut (zs := zs ++ ws) e6d
          refine ⟨ar, D2, zs, ws, rfl, rfl, e6d, ed, Nat.le_of_lt (szL (by omega)), _, _, _, _, _, _, zs ++ ws, rfl, same_mut (k36.trans k6d) nar, ?_, upd_same, ?_, by rw [List.length_append]; omega⟩
          · exact kt _ _ ((k6.trans k6d) _ _ eC5)
          · exact LV.app (lz6.mono fun _ _ y => y.mono fun a xs e => kt a xs (k6d _ _ e)) (lw.mono fun _ _ y => y.mono kt)
      · rintro σ' H5 ⟨x6, x7, x8, x9, x10, x11, zs, rfl, k5, eC5, e5, lz, lzs⟩
        rw [len1] at lz
        have lz : LV (ArcV H5) zs (netQ M L S Z) := lz
        refine ⟨_, rfl, pa, us, rfl, .inr (SqT.of ((k3.trans k5) _ _ e2)), _, rfl, ar, zs, rfl, .inl ⟨SqL.of e5, fun tp ntp => ⟨by show 2 ≤ sizeLine; decide, fun p np => ?_⟩⟩⟩
        rw [lvn]
        have k6 := same_upd (o := .tup zs) (Same.refl H5) ntp
        have et : upd H5 tp (.tup zs) tp = some (.tup zs) := upd_same
        generalize upd H5 tp (.tup zs) = H6 at k6 et np
        have k7 := same_upd (o := .tup [.int ((posL S Z).length : Nat), .ref tp]) (Same.refl H6) np
        have ep : upd H6 p (.tup [.int ((posL S Z).length : Nat), .ref tp]) p = some (.tup [nV (posL S Z).length, .ref tp]) := upd_same
        generalize upd H6 p (.tup [.int ((posL S Z).length : Nat), .ref tp]) = H7 at k7 ep
        exact q H7 p tp zs ((k2.trans (k3.trans k5)).trans (k6.trans k7)) ep (k7 _ _ et) (lz.mono fun _ _ y => y.mono fun _ _ e => (k6.trans k7) _ _ e)
end
end Vf

set_option Elab.async false
set_option linter.all false
set_option maxRecDepth 100000
set_option maxHeartbeats 4000000
namespace Vf
open PySem PySem.Spec PyProof.Rows L2 TL
theorem eqv_nat {H : Hp} (i : Int) : Eqv 1 H (.int i) (.int i) := .inl (.inr (.inl ⟨i, rfl, rfl⟩))
theorem ends_asc (S : Sty) (zs : List Nat) (h0 : 0 < zs.length) : (ends S zs).Pairwise (· < ·) := by
  unfold ends
  rw [List.pairwise_cons]
  refine ⟨fun y hy => ?_, ?_⟩
  · rcases List.mem_append.mp hy with z | z
    · obtain ⟨r, hr, rfl⟩ := List.mem_map.mp z
      have := places_bd hr; omega
    · rw [List.mem_singleton.mp z]; exact h0
  · rw [List.pairwise_append]
    refine ⟨?_, List.pairwise_singleton _ _, fun a ha b hb => ?_⟩
    · rw [List.pairwise_map]; exact places_asc S zs
    · obtain ⟨r, hr, rfl⟩ := List.mem_map.mp ha
      rw [List.mem_singleton.mp hb]
      have := places_bd hr; omega
section
variable {P : Program} {w : World} {K : PySem.W.Frag} {mg : Str → Option Value} {base : Heap}
def spPiecesRight : Sp := fun vs H Q _ => ∃ (v u : V) (S : Sty) (zs : List Nat), vs = [v, sV zs, u] ∧ StyV H v S ∧ StyOk S ∧ WdOk zs ∧ 0 < zs.length ∧ ShapeV H u S zs ∧ ∀ H', Same H H' → Q (.bl true) H'
end
end Vf

set_option Elab.async false
set_option linter.all false
set_option maxRecDepth 100000
set_option maxHeartbeats 4000000
namespace Vf
open PySem PySem.Spec PyProof.Rows L2 TL
def TabV (S : Sty) (H : Hp) (x : V) (z : List Nat) : Prop := ∃ D kvs, x = .ref D ∧ H D = some (.dT kvs) ∧ ∀ k m : Nat, k ≤ nP S z → (m = 0 ∨ (k < m ∧ m ≤ nP S z)) → valV kvs (keyP (k, m)) = some (nV (pcW S z k m))
theorem TabV.same {S : Sty} {H H' : Hp} {x : V} {z : List Nat} (h : TabV S H x z) (k : Same H H') : TabV S H' x z := by
  obtain ⟨D, kvs, e, h1, h2⟩ := h
  exact ⟨D, kvs, e, k _ _ h1, h2⟩
def mE (n j : Nat) : Nat := if j = n + 1 then 0 else j
theorem mE_inj {n j j' : Nat} (h1 : 0 < j) (h2 : 0 < j') (l1 : j ≤ n + 1) (l2 : j' ≤ n + 1) (e : mE n j = mE n j') : j = j' := by
  unfold mE at e
  split at e <;> split at e <;> omega
theorem eA_le {S : Sty} {z : List Nat} {k : Nat} : eA S z k ≤ z.length := by
  unfold eA
  rw [List.getD_eq_getElem?_getD]
  cases e : (ends S z)[k]? with
  | none => exact Nat.zero_le _
  | some y =>
    show y ≤ z.length
    have hm := List.mem_of_getElem? e
    unfold ends at hm
    rcases List.mem_cons.mp hm with q | q
    · rw [q]; exact Nat.zero_le _
    · rcases List.mem_append.mp q with q | q
      · obtain ⟨r, hr, rfl⟩ := List.mem_map.mp q
        have := places_bd hr; omega
      · rw [List.mem_singleton.mp q]; exact Nat.le_refl _
theorem eA_lt {S : Sty} {z : List Nat} (h0 : 0 < z.length) {i j : Nat} (h : i < j) (hj : j ≤ nP S z + 1) : eA S z i < eA S z j := by
  have lE := ends_len S z
  have li : i < (ends S z).length := by unfold nP at hj; omega
  have lj : j < (ends S z).length := by unfold nP at hj; omega
  have := List.pairwise_iff_getElem.mp (ends_asc S z h0) i j li lj h
  unfold eA
  rw [List.getD_eq_getElem?_getD, List.getD_eq_getElem?_getD, List.getElem?_eq_getElem li, List.getElem?_eq_getElem lj]
  exact this
section
variable {P : Program} {w : World} {K : PySem.W.Frag} {mg : Str → Option Value} {base : Heap}
def spTab : Sp := fun vs H Q _ => ∃ (v : V) (S : Sty) (zs : List Nat), vs = [v, sV zs] ∧ StyV H v S ∧ StyOk S ∧ WdOk zs ∧ 0 < zs.length ∧ ∀ H' x, Same H H' → TabV S H' x zs → Q x H'
end
end Vf

set_option Elab.async false
set_option linter.all false
set_option maxRecDepth 100000
set_option maxHeartbeats 4000000
namespace Vf
open PySem PySem.Spec PyProof.Rows L2 TL
def tSel (K : PySem.W.Frag) (sl : Nat) : TE := fun σ H Q => ∃ (a : Nat) (b : Addr) (x y : Nat), σ[4]? = some (some (nV a)) ∧ σ[sl]? = some (some (.ref b)) ∧ H b = some (.tup [nV x, nV y]) ∧ Q (nV (if a = x then y else 0)) H
theorem sel_ok {K : PySem.W.Frag} {σ : L2.St} {H : Hp} {Q : VK} {sl a x y : Nat} {b : Addr} (e4 : σ[4]? = some (some (nV a))) (e1 : σ[sl]? = some (some (.ref b))) (eb : H b = some (.tup [nV x, nV y])) (q : Q (nV (if a = x then y else 0)) H) :
    tIf (tTest (tOp rEq (tVar 4) (tOp (rIxT K) (tVar sl) (tC (V.int 0))))) (tOp (rIxT K) (tVar sl) (tC (V.int 1))) (tC (V.int 0)) σ H Q := by
  refine ⟨_, e4, _, e1, b, _, 0, _, rfl, rfl, SqT.of eb, rfl, rfl, _, rfl, ?_⟩
  refine ifD (fun c => ?_) (fun c => ?_)
  · rw [if_pos (Int.ofNat.inj (V.int.inj c))] at q
    exact ⟨_, e1, b, _, 1, _, rfl, rfl, SqT.of eb, rfl, q⟩
  · rw [if_neg (fun z => c (by rw [z]))] at q
    exact q
def tPos (K : PySem.W.Frag) : TE := fun σ H Q => ∃ (b : Addr) (x y : Nat), σ[2]? = some (some (.ref b)) ∧ H b = some (.tup [nV x, nV y]) ∧ Q (nV (if 0 < y then 1 else 0)) H
theorem pos_ok {K : PySem.W.Frag} {σ : L2.St} {H : Hp} {Q : VK} {x y : Nat} {b : Addr} (e2 : σ[2]? = some (some (.ref b))) (eb : H b = some (.tup [nV x, nV y])) (q : Q (nV (if 0 < y then 1 else 0)) H) :
    tIf (tTest (tOp (rI0 fun i j => V.bl (decide (j < i))) (tOp (rIxT K) (tVar 2) (tC (V.int 1))) (tC (V.int 0)))) (tC (V.int 1)) (tC (V.int 0)) σ H Q := by
  refine ⟨_, e2, b, _, 1, _, rfl, rfl, SqT.of eb, rfl, _, _, rfl, rfl, _, rfl, ?_⟩
  refine ifD (fun c => ?_) (fun c => ?_)
  · have c : (0 : Int) < (y : Int) := c
    rw [if_pos (by omega)] at q; exact q
  · have c : ¬ (0 : Int) < (y : Int) := c
    rw [if_neg (by omega)] at q; exact q
section
variable {P : Program} {w : World} {K : PySem.W.Frag} {mg : Str → Option Value} {base : Heap}
def spPieces : Sp := fun vs H Q _ => ∃ (tl ba ea : Addr) (ts : List V) (S : Sty) (Z : List (List Nat)) (i k j m : Nat), vs = [.ref tl, .ref ba, .ref ea] ∧ H tl = some (.lst ts) ∧ LV (TabV S H) ts Z ∧ H ba = some (.tup [nV i, nV k]) ∧ H ea = some (.tup [nV j, nV m]) ∧ i < Z.length ∧ k ≤ nP S (wz Z i) ∧ ((j, m) = (Z.length, 0) ∨ (j < Z.length ∧ m ≤ nP S (wz Z j))) ∧ LtP (i, k) (j, m) ∧ Z.length ≤ 1000 ∧
  ∀ H', Same H H' → Q (nV (natW S Z i k (j, m))) H'
end
end Vf

set_option Elab.async false
set_option linter.all false
set_option maxRecDepth 100000
set_option maxHeartbeats 4000000
namespace Vf
open PySem PySem.Spec PyProof.Rows L2 TL
/-! ### what stands behind a place -/
theorem fm_cong {α β : Type} {f g : α → List β} : ∀ {l : List α}, (∀ a ∈ l, f a = g a) → l.flatMap f = l.flatMap g
  | [], _ => rfl
  | a :: l, h => by rw [List.flatMap_cons, List.flatMap_cons, h a List.mem_cons_self, fm_cong fun x hx => h x (List.mem_cons_of_mem _ hx)]
theorem fmp_cong {α β : Type} {f g : α → Option β} : ∀ {l : List α}, (∀ a ∈ l, f a = g a) → l.filterMap f = l.filterMap g
  | [], _ => rfl
  | a :: l, h => by
    have ih := fmp_cong (l := l) fun x hx => h x (List.mem_cons_of_mem _ hx)
    have e := h a List.mem_cons_self
    cases q : f a with
    | none => rw [List.filterMap_cons_none q, List.filterMap_cons_none (by rw [← e]; exact q), ih]
    | some y => rw [List.filterMap_cons_some q, List.filterMap_cons_some (by rw [← e]; exact q), ih]
theorem row_split (S : Sty) (Z : List (List Nat)) (i k : Nat) (h : k ≤ nP S (wz Z i)) : rowL S Z i = (List.range k).map (fun x => (i, x)) ++ (i, k) :: (List.range (nP S (wz Z i) - k)).map fun s => (i, k + 1 + s) := by
  unfold rowL
  rw [show nP S (wz Z i) + 1 = k + ((nP S (wz Z i) - k) + 1) by omega, List.range_add, List.map_append, List.range_succ_eq_map, List.map_map, List.map_cons, List.map_map]
  congr 1
  congr 1
  refine List.map_congr_left fun s _ => ?_
  show (i, k + (s + 1)) = (i, k + 1 + s)
  rw [show k + (s + 1) = k + 1 + s by omega]
theorem row_headed (S : Sty) (Z : List (List Nat)) (i k t : Nat) : headL i (t + 1) ++ innerL S Z i k (t + 1) = rowL S Z (i + (t + 1)) := by
  have h := row_split S Z (i + (t + 1)) 0 (Nat.zero_le _)
  rw [h]
  unfold headL innerL kkA
  rw [if_neg (Nat.succ_ne_zero t), if_neg (Nat.succ_ne_zero t)]
  rfl
theorem pos_split {S : Sty} {Z : List (List Nat)} {i k : Nat} (hi : i < Z.length) (hk : k ≤ nP S (wz Z i)) :
    posL S Z = ((List.range i).flatMap (rowL S Z) ++ (List.range k).map (fun x => (i, x))) ++ (i, k) :: afterL S Z i k := by
  unfold posL afterL
  obtain ⟨d, hd⟩ : ∃ d, Z.length - i = d + 1 := ⟨Z.length - i - 1, by omega⟩
  have e1 : List.range Z.length = List.range i ++ (List.range (d + 1)).map (fun x => i + x) := by rw [← hd, ← List.range_add, show i + (Z.length - i) = Z.length by omega]
  rw [e1, hd, List.flatMap_append, List.flatMap_map, List.range_succ_eq_map, List.flatMap_cons, List.flatMap_cons, List.flatMap_map, List.flatMap_map]
  have e2 : rowL S Z (i + 0) = (List.range k).map (fun x => (i, x)) ++ (i, k) :: (headL i 0 ++ innerL S Z i k 0) := by
    rw [Nat.add_zero, row_split S Z i k hk]
    rfl
  have e3 : (List.range d).flatMap (fun a => rowL S Z (i + Nat.succ a)) = (List.range d).flatMap (fun a => headL i (Nat.succ a) ++ innerL S Z i k (Nat.succ a)) := fm_cong fun a _ => (row_headed S Z i k a).symm
  rw [e2, e3]
  simp only [List.append_assoc, List.cons_append]
theorem pos_drop {S : Sty} {Z : List (List Nat)} {a i k : Nat} (hi : i < Z.length) (hk : k ≤ nP S (wz Z i)) (h : (posL S Z)[a]? = some (i, k)) : (posL S Z).drop (a + 1) = afterL S Z i k := by
  have hs := pos_split (S := S) hi hk
  generalize (List.range i).flatMap (rowL S Z) ++ (List.range k).map (fun x => (i, x)) = pre at hs
  have e : (posL S Z)[pre.length]? = some (i, k) := by
    rw [hs, List.getElem?_append_right (Nat.le_refl _), Nat.sub_self]; rfl
  have ea := pos_inj S Z _ _ _ h e
  rw [ea, hs, show pre ++ (i, k) :: afterL S Z i k = (pre ++ [(i, k)]) ++ afterL S Z i k by rw [List.append_assoc]; rfl]
  exact List.drop_left' (by rw [List.length_append]; rfl)
/-- a list's filter, told by the places -/
theorem fmp_range {α β : Type} (f : Nat → α → Option β) : ∀ (l : List α) (o : Nat), (l.zipIdx o).filterMap (fun y => f y.2 y.1) = (List.range l.length).filterMap fun s => (l[s]?).bind (f (o + s))
  | [], _ => rfl
  | a :: l, o => by
    rw [List.zipIdx_cons, List.length_cons, List.range_succ_eq_map]
    have ih := fmp_range f l (o + 1)
    have e : ((List.range l.length).map Nat.succ).filterMap (fun s => ((a :: l)[s]?).bind (f (o + s))) = (List.range l.length).filterMap fun s => (l[s]?).bind (f (o + 1 + s)) := by
      rw [List.filterMap_map]
      refine fmp_cong fun s _ => ?_
      show (l[s]?).bind (f (o + (s + 1))) = _
      rw [show o + (s + 1) = o + 1 + s by omega]
    cases h : f o a with
    | none =>
      rw [List.filterMap_cons_none (by exact h), List.filterMap_cons_none (by show Option.bind (some a) (f (o + 0)) = none; exact h), ih, e]
    | some y =>
      rw [List.filterMap_cons_some (b := y) (by exact h), List.filterMap_cons_some (b := y) (by show Option.bind (some a) (f (o + 0)) = some y; exact h), ih, e]
def arcD (M L : Nat) (S : Sty) (Z : List (List Nat)) (i k a b : Nat) (y : Nat × Nat) : Option (Nat × Nat × Nat) := if natW S Z i k y ≤ M then some (a, b, costQ M L S Z k y (natW S Z i k y)) else none
theorem fmp_zip {α β : Type} (g : α → Option β) : ∀ (l : List α) (o : Nat), (l.zipIdx o).filterMap (fun y => g y.1) = l.filterMap g
  | [], _ => rfl
  | a :: l, o => by
    rw [List.zipIdx_cons]
    cases h : g a with
    | none => rw [List.filterMap_cons_none (by exact h), List.filterMap_cons_none h, fmp_zip g l]
    | some y => rw [List.filterMap_cons_some (b := y) (by exact h), List.filterMap_cons_some h, fmp_zip g l]
/-- the arcs from the place a, as the law goes through the places behind it -/
theorem rowQ_law {M L : Nat} {S : Sty} {Z : List (List Nat)} {a : Nat} {x : Nat × Nat} (e : (posL S Z)[a]? = some x) (hi : x.1 < Z.length) (hk : x.2 ≤ nP S (wz Z x.1)) :
    rowQ M L S Z a = (List.range ((posL S Z).length - (a + 1))).filterMap fun s => ((posL S Z)[a + 1 + s]?).bind (arcD M L S Z x.1 x.2 a (a + 1 + s)) := by
  have hd := pos_drop (a := a) (i := x.1) (k := x.2) hi hk e
  have h1 : rowQ M L S Z a = (afterL S Z x.1 x.2).filterMap fun y => arcD M L S Z x.1 x.2 a (idxQ S Z y) y := by
    unfold rowQ linesF endsF
    rw [getD_of e, List.map_map, List.map_filterMap]
    refine fmp_cong fun y _ => ?_
    unfold fitO arcD
    by_cases c : natW S Z x.1 x.2 y ≤ M
    · rw [if_pos c, if_pos c]; rfl
    · rw [if_neg c, if_neg c]; rfl
  rw [h1, ← hd, ← fmp_zip _ _ (a + 1)]
  have h2 : (((posL S Z).drop (a + 1)).zipIdx (a + 1)).filterMap (fun y => arcD M L S Z x.1 x.2 a (idxQ S Z y.1) y.1) = (((posL S Z).drop (a + 1)).zipIdx (a + 1)).filterMap (fun y => arcD M L S Z x.1 x.2 a y.2 y.1) := fmp_cong fun y hy => by
    have ⟨h3, h4⟩ := List.mk_mem_zipIdx_iff_le_and_getElem?_sub.mp hy
    rw [List.getElem?_drop, show a + 1 + (y.2 - (a + 1)) = y.2 by omega] at h4
    have : idxQ S Z y.1 = y.2 := idxOf_at (pos_inj S Z) h4
    rw [this]
  rw [h2, fmp_range (fun b y => arcD M L S Z x.1 x.2 a b y), List.length_drop]
  refine fmp_cong fun s _ => ?_
  rw [List.getElem?_drop]
end Vf

set_option Elab.async false
set_option linter.all false
set_option maxRecDepth 100000
set_option maxHeartbeats 4000000
namespace Vf
open PySem PySem.Spec PyProof.Rows L2 TL
def PrcV (S : Sty) (H : Hp) (x : V) (z : List Nat) : Prop := ∃ b, x = .ref b ∧ H b = some (.lst ((places S z).map fun r => nV r.2))
theorem PrcV.same {S : Sty} {H H' : Hp} {x : V} {z : List Nat} (h : PrcV S H x z) (k : Same H H') : PrcV S H' x z := by
  obtain ⟨b, e, f⟩ := h
  exact ⟨b, e, k _ _ f⟩
theorem TabV.mut {S : Sty} {H : Hp} {D : Addr} {xs ys : List V} {x : V} {z : List Nat} (h : TabV S H x z) (eD : H D = some (.lst xs)) : TabV S (upd H D (.lst ys)) x z := by
  obtain ⟨E, kvs, e, h1, h2⟩ := h
  exact ⟨E, kvs, e, by rw [upd_ne (fun q => by rw [q, eD] at h1; cases h1)]; exact h1, h2⟩
theorem PrcV.mut {S : Sty} {H : Hp} {D : Addr} {xs ys : List V} {x : V} {z : List Nat} (h : PrcV S H x z) (eD : H D = some (.lst xs)) (ne : x ≠ .ref D) : PrcV S (upd H D (.lst ys)) x z := by
  obtain ⟨b, e, h1⟩ := h
  exact ⟨b, e, by rw [upd_ne (fun q => ne (by rw [e, q]))]; exact h1⟩
theorem pos_any {S : Sty} {Z : List (List Nat)} {b : Nat} {y : Nat × Nat} (h : (posL S Z)[b]? = some y) : y = (Z.length, 0) ∨ (y.1 < Z.length ∧ y.2 ≤ nP S (wz Z y.1)) := by
  have m := List.mem_of_getElem? h
  unfold posL at m
  rcases List.mem_append.mp m with m | m
  · obtain ⟨i, hi, hx⟩ := List.mem_flatMap.mp m
    unfold rowL at hx
    obtain ⟨u, hu, rfl⟩ := List.mem_map.mp hx
    exact .inr ⟨List.mem_range.mp hi, by show u ≤ nP S (wz Z i); have := List.mem_range.mp hu; omega⟩
  · exact .inl (List.mem_singleton.mp m)
theorem arc_app {H H3 : Hp} {l p : Addr} {zs : List V} {rs : List (Nat × Nat × Nat)} {a b c : Nat} {va vb vc : V} (ha : va = nV a) (hb : vb = nV b) (hc : vc = nV c) (k : Same H H3) (nl : H l = none) (el : H3 l = some (.lst zs)) (lz : LV (ArcV H3) zs rs) (np : H3 p = none) :
    upd H3 p (.tup [va, vb, vc]) l = some (.lst zs) ∧ Same H (upd (upd H3 p (.tup [va, vb, vc])) l (.lst (zs ++ [.ref p]))) ∧ LV (ArcV (upd (upd H3 p (.tup [va, vb, vc])) l (.lst (zs ++ [.ref p])))) (zs ++ [.ref p]) (rs ++ [(a, b, c)]) := by
  subst ha hb hc
  have k4 := same_upd (o := .tup [nV a, nV b, nV c]) (Same.refl H3) np
  have e4 : upd H3 p (.tup [nV a, nV b, nV c]) p = some (.tup [nV a, nV b, nV c]) := upd_same
  generalize upd H3 p (.tup [nV a, nV b, nV c]) = H4 at k4 e4
  have el4 := k4 _ _ el
  exact ⟨el4, same_mut (k.trans k4) nl, LV.snoc (lz.mono fun _ _ z => (z.mono fun a xs e => k4 _ _ e).mono (kt_mut el4)) ⟨p, rfl, kt_mut el4 _ _ e4⟩⟩
section
variable {P : Program} {w : World} {K : PySem.W.Frag} {mg : Str → Option Value} {base : Heap}
def spDuePl : Sp := fun vs H Q _ => ∃ (pl : Addr) (ps : List V) (S : Sty) (Z : List (List Nat)), vs = [.ref pl] ∧ H pl = some (.lst ps) ∧ LV (PrcV S H) ps Z ∧ WdsOk S Z ∧
  ∀ H' l vs, Same H H' → H l = none → H' l = some (.lst vs) → LV (FgV H') vs (posL S Z) → Q (.ref l) H'
def spDueN : Sp := fun vs H Q _ => ∃ (v : V) (wl : Addr) (S : Sty) (Z : List (List Nat)) (M L : Nat), vs = [v, .ref wl, nV M, nV L] ∧ StyV H v S ∧ H wl = some (.lst (Z.map sV)) ∧ WdsOk S Z ∧ (∀ z ∈ Z, WdOk z) ∧ M ≤ 1000000 ∧
  ∀ H' p pp np t pus us, Same H H' → H' p = some (.tup [.ref pp, .ref np]) → H' pp = some (.tup pus) → LV (FgV H') pus (posL S Z) → H' np = some (.tup [nV (posL S Z).length, .ref t]) → H' t = some (.tup us) → LV (ArcV H') us (netQ M L S Z) → Q (.ref p) H'
end
end Vf

set_option Elab.async false
set_option linter.all false
set_option maxRecDepth 100000
set_option maxHeartbeats 4000000
namespace Vf
open PySem PySem.Spec PyProof.Rows L2 TL
def alpL : List Nat := ("abcdefghijklmnopqrstuvwxyz0123456789.,:;!?'()+=<>*/" : Str).cps.toList
theorem alp_ok : ∀ c ∈ alpL, c < 1114112 ∧ c ≠ 95 := by decide +kernel
def bK (g k : Nat) : Nat := if k < 2 then g else min g 6
def sumB (g : Nat) : Nat → Nat
  | 0 => 0
  | k + 1 => sumB g k + (bK g k - 1)
theorem sumB_mono (g k : Nat) : ∀ d, sumB g k ≤ sumB g (k + d)
  | 0 => Nat.le_refl _
  | d + 1 => Nat.le_trans (sumB_mono g k d) (Nat.le_add_right _ _)
theorem sumB_le {g k n : Nat} (h : k ≤ n) : sumB g k ≤ sumB g n := by
  obtain ⟨d, rfl⟩ : ∃ d, n = k + d := ⟨n - k, by omega⟩
  exact sumB_mono g k d
def tLgst : TE := fun σ H Q => ∃ k g : Nat, σ[6]? = some (some (nV k)) ∧ σ[4]? = some (some (nV g)) ∧ Q (nV (bK g k)) H
theorem lgst_ok {σ : L2.St} {H : Hp} {Q : VK} {k g : Nat} (e6 : σ[6]? = some (some (nV k))) (e4 : σ[4]? = some (some (nV g))) (q : Q (nV (bK g k)) H) :
    tIf (tTest (tOp (rI0 fun i j => V.bl (decide (i < j))) (tVar 6) (tC (V.int 2)))) (tVar 4) (tCB (fun xs H Q => ∃ i j, xs = [V.int i, V.int j] ∧ Q (V.int (if j < i then j else i)) H) (tCons (tVar 4) (tCons (tC (V.int 6)) tNil))) σ H Q := by
  unfold bK at q
  refine ⟨_, e6, _, _, rfl, rfl, _, rfl, ?_⟩
  refine ifD (fun c => ?_) (fun c => ?_)
  · have c : (k : Int) < 2 := c
    rw [if_pos (by omega)] at q
    exact ⟨_, e4, q⟩
  · have c : ¬ (k : Int) < 2 := c
    rw [if_neg (by omega)] at q
    refine ⟨_, e4, _, _, rfl, ?_⟩
    exact Eq.mp (congrArg (fun v => Q v H) (congrArg V.int (by split <;> omega))) q
structure DwOk (Z : List (List Nat)) : Prop where
  wd : ∀ z ∈ Z, WdOk z
  ne : ∀ z ∈ Z, 0 < z.length
  ln : Z.length ≤ 30
  l0 : 0 < Z.length
  sm : (Z.map fun z => z.length - 1).sum ≤ 60
  al : ∀ z ∈ Z, ∀ c ∈ z, c ∈ alpL
section
variable {P : Program} {w : World} {K : PySem.W.Frag} {mg : Str → Option Value} {base : Heap}
def spDw : Sp := fun vs H Q _ => ∃ (d l : Addr), vs = [.ref d] ∧ DI d l H ∧ ∀ H' L Z, Kp d H H' → DI d l H' → H L = none → H' L = some (.lst (Z.map sV)) → DwOk Z → Q (.ref L) H'
theorem ok_dw (T : Txt K mg) : FnOk P w K mg base CX0 3 T.a_law_drawn_words T.d_law_drawn_words ["_law_d"] spDw := by
  have G_law_draw : FnOk P w K mg base CX0 1 T.a_law_draw T.d_law_draw ["_law_d", "_law_many"] spDraw := ok_draw T
  have G_law_pick : FnOk P w K mg base CX0 2 T.a_law_pick T.d_law_pick ["_law_d", "_law_row"] (spPick K) := ok_pick T
  have G_law_rare : FnOk P w K mg base CX0 2 T.a_law_rare T.d_law_rare ["_law_d", "_law_many"] spRare := ok_rare T
  refine T.D_law_drawn_words.F.ok sc_law_drawn_words (fun vs H Q E h => ?_) (fun cdv A outer s H vs Q E hr h => ?_)
  · obtain ⟨d, l, rfl, _⟩ := h
    rfl
  · obtain ⟨d, l, rfl, hD, q⟩ := h
    refine ⟨_, (pss_cons (ps_set (i := 1) sc_law_drawn_words.nd rfl (.inr rfl) (pe_call G_law_pick (hr.mono (by decide)) (by rfl) T.D_law_pick.G T.D_law_pick.F.kp T.D_law_pick.B .nil pass0 (pa_cons (pv 0) (pa_cons (pe_lst (pa_cons pe_str (pa_cons pe_str (pa_cons pe_str (pa_cons pe_str pa_nil))))) pa_nil))))
      (pss_cons (ps_set (i := 2) sc_law_drawn_words.nd rfl (.inl rfl) (pe_call G_law_draw (hr.mono (by decide)) (by rfl) T.D_law_draw.G T.D_law_draw.F.kp T.D_law_draw.B .nil pass0 (pa_cons (pv 0) (pa_cons pe_int pa_nil))))
      (pss_cons (ps_set (i := 3) sc_law_drawn_words.nd rfl (.inl rfl) (pe_op op_add pe_int (pe_call G_law_draw (hr.mono (by decide)) (by rfl) T.D_law_draw.G T.D_law_draw.F.kp T.D_law_draw.B .nil pass0 (pa_cons (pv 0) (pa_cons pe_int pa_nil)))))
      (pss_cons (ps_set (i := 4) sc_law_drawn_words.nd rfl (.inl rfl) pe_int)
      (Evl.pss_cut (ps_if (pt_cmpR op_eq (pv 2) pe_int (nomark _)) (pss_cons (ps_set (i := 3) sc_law_drawn_words.nd rfl (.inl rfl) (pe_op op_add pe_int (pe_call G_law_draw (hr.mono (by decide)) (by rfl) T.D_law_draw.G T.D_law_draw.F.kp T.D_law_draw.B .nil pass0 (pa_cons (pv 0) (pa_cons pe_int pa_nil)))))
      (pss_one (ps_set (i := 4) sc_law_drawn_words.nd rfl (.inl rfl) pe_int))) pss_nil)
      (Evl.pss_cut (ps_if (pt_cmpR op_eq (pv 2) pe_int (nomark _)) (pss_cons (ps_set (i := 3) sc_law_drawn_words.nd rfl (.inl rfl) (pe_ifExp (pt_val (pe_call G_law_rare (hr.mono (by decide)) (by rfl) T.D_law_rare.G T.D_law_rare.F.kp T.D_law_rare.B .nil pass0 (pa_cons (pv 0) (pa_cons pe_int pa_nil)))) (pe_op op_add pe_int (pe_call G_law_draw (hr.mono (by decide)) (by rfl) T.D_law_draw.G T.D_law_draw.F.kp T.D_law_draw.B .nil pass0 (pa_cons (pv 0) (pa_cons pe_int pa_nil)))) (pe_op op_add pe_int (pe_call G_law_draw (hr.mono (by decide)) (by rfl) T.D_law_draw.G T.D_law_draw.F.kp T.D_law_draw.B .nil pass0 (pa_cons (pv 0) (pa_cons pe_int pa_nil))))))
      (pss_one (ps_set (i := 4) sc_law_drawn_words.nd rfl (.inl rfl) pe_int))) pss_nil)
      (pss_cons (ps_set (i := 5) sc_law_drawn_words.nd rfl (.inl rfl) (pe_lst pa_nil))
      (pss_cons (ps_for PassesOwn.never rfl (pi_range1 (by rfl) T.n_range (pa_cons (pv 3) pa_nil)) (pg_name (i := 6) sc_law_drawn_words.nd rfl (.inl rfl)) (pss_cons (ps_set (i := 7) sc_law_drawn_words.nd rfl (.inl rfl) (pe_op op_add pe_int (pe_call G_law_draw (hr.mono (by decide)) (by rfl) T.D_law_draw.G T.D_law_draw.F.kp T.D_law_draw.B .nil pass0 (pa_cons (pv 0) (pa_cons (PE.to (t' := tLgst) (pe_ifExp (pt_cmpR op_lt (pv 6) pe_int (nomark _)) (pv 4) (pe_callB (call_min2 (by rfl)) (by rfl) T.n_min (by decide +kernel) (pa_cons (pv 4) (pa_cons pe_int pa_nil)))) (fun σ H Q h => by
      obtain ⟨k, g, e6, e4, q⟩ := h
      exact lgst_ok e6 e4 q)) pa_nil)))))
      (pss_one (ps_expr (pe_bm PySem.F.plainAttrs_list PySem.F.slot_list_append PySem.F.type_list_append mt_append (pv 5) (pa_cons (pe_join pe_str (pe_lc (own := [("_law_n", 8)]) (g := gName 8) (tt := tYes) rfl sc_law_drawn_words.nd (pi_range1 (by rfl) T.n_range (pa_cons (pv 7) pa_nil)) (blkOk_by (own := [("_law_n", 8)]) (N := ["_law_d", "_law_signs", "_law_kind", "_law_many", "_law_longest", "_law_words", "_law_k", "_law_long", "_law_n"]) (sc := (defScope s_law_drawn_words)) (by decide +kernel)) (fun _ _ _ _ _ => (pg_name (i := 8) sc_law_drawn_words.nd rfl (.inl rfl))) (fun _ _ _ _ _ => pts_nil) (fun _ _ _ _ _ => (pe_call G_law_pick (hr.mono (by decide)) (by rfl) T.D_law_pick.G T.D_law_pick.F.kp T.D_law_pick.B .nil pass0 (pa_cons (pv 0) (pa_cons (pv 1) pa_nil)))))) pa_nil))))))
      (pss_one (ps_ret (pv 5))))))))))), ?_⟩
    refine ⟨_, rfl, by show 4 ≤ sizeLine; decide, fun p np => ?_⟩
    refine ⟨d, l, _, _, rfl, hD.new np, .inl ⟨p, rfl, (hD.nd np).1, SqL.of upd_same⟩, by simp, by simp, fun H1 v K1 D1 hv => ?_⟩
    obtain ⟨cs, rfl, c0, c1, cb⟩ : ∃ cs : List Nat, v = sV cs ∧ 0 < cs.length ∧ cs.length ≤ 1000 ∧ ∀ c ∈ cs, c ∈ alpL := by
      simp only [List.mem_cons, List.not_mem_nil, or_false] at hv
      have hall : ∀ z : Str, (decide (0 < z.cps.toList.length) && decide (z.cps.toList.length ≤ 1000) && z.cps.toList.all fun c => alpL.contains c) = true → V.str z = sV z.cps.toList ∧ 0 < z.cps.toList.length ∧ z.cps.toList.length ≤ 1000 ∧ ∀ c ∈ z.cps.toList, c ∈ alpL := by
        intro z hz
        rw [Bool.and_eq_true, Bool.and_eq_true] at hz
        exact ⟨rfl, of_decide_eq_true hz.1.1, of_decide_eq_true hz.1.2, fun c hc => List.contains_iff_mem.mp (List.all_eq_true.mp hz.2 c hc)⟩
      rcases hv with rfl | rfl | rfl | rfl
      all_goals exact ⟨_, hall _ (by decide +kernel)⟩
    have KA := ((Kp.refl d H).new np).trans K1
    refine ⟨_, rfl, d, l, 8, rfl, D1, by decide, fun H2 r2 K2 D2 _ p2 => ?_⟩
    have ⟨a2, b2⟩ := p2 (by decide)
    obtain ⟨kd, rfl⟩ : ∃ m : Nat, r2 = (m : Int) := ⟨r2.toNat, by omega⟩
    refine ⟨_, rfl, d, l, 6, rfl, D2, by decide, fun H3 r3 K3 D3 _ p3 => ?_⟩
    have ⟨a3, b3⟩ := p3 (by decide)
    obtain ⟨m3, rfl⟩ : ∃ m : Nat, r3 = (m : Int) := ⟨r3.toNat, by omega⟩
    refine ⟨(1 : Int), (m3 : Int), rfl, rfl, ?_⟩
    have KB := KA.trans (K2.trans K3)
    refine ⟨fun σ' H' => ∃ m g : Nat, σ' = [some (.ref d), some (sV cs), some (nV kd), some (nV m), some (nV g), none, none, none, none] ∧ Kp d H H' ∧ DI d l H' ∧ 1 ≤ m ∧ m ≤ 30 ∧ g ≤ 16 ∧ 1 ≤ g ∧ sumB g m ≤ 60, ?_, ?_⟩
    · refine ⟨_, rfl, rfl, _, rfl, ?_⟩
      refine ifD (fun c => ?_) (fun c => ?_)
      · refine ⟨_, rfl, d, l, 4, rfl, D3, by decide, fun H4 r4 K4 D4 _ p4 => ?_⟩
        have ⟨a4, b4⟩ := p4 (by decide)
        obtain ⟨m4, rfl⟩ : ∃ m : Nat, r4 = (m : Int) := ⟨r4.toNat, by omega⟩
        refine ⟨(1 : Int), (m4 : Int), rfl, rfl, ?_⟩
        refine ⟨1 + m4, 16, ?_, KB.trans K4, D4, by omega, by omega, by omega, by omega, Nat.le_trans (sumB_le (n := 4) (by omega)) (by decide)⟩
        show [_, _, _, some (V.int (1 + (m4 : Int))), _, _, _, _, _] = _
        rw [show V.int (1 + (m4 : Int)) = nV (1 + m4) from congrArg V.int (by omega)]; rfl
      · refine ⟨1 + m3, 6, ?_, KB, D3, by omega, by omega, by omega, by omega, Nat.le_trans (sumB_le (n := 6) (by omega)) (by decide)⟩
        show [_, _, _, some (V.int (1 + (m3 : Int))), _, _, _, _, _] = _
        rw [show V.int (1 + (m3 : Int)) = nV (1 + m3) from congrArg V.int (by omega)]; rfl
    rintro σ' H4 ⟨m, g, rfl, K4, D4, m1, m30, g16, g1, sb⟩
    refine ⟨fun σ' H' => ∃ m g : Nat, σ' = [some (.ref d), some (sV cs), some (nV kd), some (nV m), some (nV g), none, none, none, none] ∧ Kp d H H' ∧ DI d l H' ∧ 1 ≤ m ∧ m ≤ 30 ∧ g ≤ 16 ∧ 1 ≤ g ∧ sumB g m ≤ 60, ?_, ?_⟩
    · refine ⟨_, rfl, rfl, _, rfl, ?_⟩
      refine ifD (fun c => ?_) (fun c => ?_)
      · have s3 : ∀ n : Nat, n ≤ 30 → sumB 3 n ≤ 60 := fun n hn => Nat.le_trans (sumB_le hn) (by decide)
        refine ⟨_, rfl, d, l, 4, rfl, D4, by decide, fun H5 b K5 D5 => ⟨b, rfl, ?_⟩⟩
        cases b with
        | true =>
          refine iteT ?_
          refine ⟨_, rfl, d, l, 18, rfl, D5, by decide, fun H6 r6 K6 D6 _ p6 => ?_⟩
          have ⟨a6, b6⟩ := p6 (by decide)
          obtain ⟨m6, rfl⟩ : ∃ m : Nat, r6 = (m : Int) := ⟨r6.toNat, by omega⟩
          refine ⟨(13 : Int), (m6 : Int), rfl, rfl, ?_⟩
          refine ⟨13 + m6, 3, ?_, (K4.trans K5).trans K6, D6, by omega, by omega, by omega, by omega, s3 _ (by omega)⟩
          show [_, _, _, some (V.int (13 + (m6 : Int))), _, _, _, _, _] = _
          rw [show V.int (13 + (m6 : Int)) = nV (13 + m6) from congrArg V.int (by omega)]; rfl
        | false =>
          refine iteF ?_
          refine ⟨_, rfl, d, l, 6, rfl, D5, by decide, fun H6 r6 K6 D6 _ p6 => ?_⟩
          have ⟨a6, b6⟩ := p6 (by decide)
          obtain ⟨m6, rfl⟩ : ∃ m : Nat, r6 = (m : Int) := ⟨r6.toNat, by omega⟩
          refine ⟨(7 : Int), (m6 : Int), rfl, rfl, ?_⟩
          refine ⟨7 + m6, 3, ?_, (K4.trans K5).trans K6, D6, by omega, by omega, by omega, by omega, s3 _ (by omega)⟩
          show [_, _, _, some (V.int (7 + (m6 : Int))), _, _, _, _, _] = _
          rw [show V.int (7 + (m6 : Int)) = nV (7 + m6) from congrArg V.int (by omega)]; rfl
      · exact ⟨m, g, rfl, K4, D4, m1, m30, g16, g1, sb⟩
    rintro σ' H5 ⟨m, g, rfl, K5, D5, m1, m30, g16, g1, sb⟩
    refine ⟨by show 0 ≤ sizeLine; decide, fun W nW => ?_⟩
    have ndW := D5.nd nW
    have nWH : H W = none := by
      cases e : H W with
      | none => rfl
      | some o =>
        have := K5 _ _ ndW.1 e
        rw [nW] at this; cases this
    refine ⟨_, rfl, (m : Int), rfl, by omega, by omega, ?_⟩
    rw [Int.toNat_natCast]
    refine for_it walk_range (fun k σ' H' => ∃ (x6 x7 : Option V) (Z : List (List Nat)), σ' = [some (.ref d), some (sV cs), some (nV kd), some (nV m), some (nV g), some (.ref W), x6, x7, none] ∧ Kp d H H' ∧ DI d l H' ∧ H' W = some (.lst (Z.map sV)) ∧ Z.length = k ∧ (∀ z ∈ Z, WdOk z) ∧ (∀ z ∈ Z, 0 < z.length) ∧ (Z.map fun z => z.length - 1).sum ≤ sumB g k ∧ (∀ z ∈ Z, ∀ c ∈ z, c ∈ alpL))
      ⟨none, none, [], rfl, K5.new nW, D5.new nW, upd_same, rfl, (fun _ h => nomatch h), (fun _ h => nomatch h), Nat.le_refl _, (fun _ h => nomatch h)⟩ (fun _ _ _ _ _ => trivial) ?_ ?_
    · rintro k x σ' H0 H6 hk ⟨x6, x7, Z, rfl, K6, D6, eW, hl, w1, w2, w3, w4⟩ ⟨rfl, hx⟩
      have hx : x = nV k := by rw [hx]; exact int0 k
      subst hx
      have bk1 : 1 ≤ bK g k := by unfold bK; split <;> omega
      have bk16 : bK g k ≤ 16 := by unfold bK; split <;> omega
      refine ⟨_, rfl, k, g, rfl, rfl, d, l, (bK g k : Int), rfl, D6, by omega, fun H7 r K7 D7 e1 e2 => ?_⟩
      obtain ⟨j, rfl, hj⟩ : ∃ j : Nat, r = (j : Int) ∧ j < bK g k := by
        by_cases c : (2 : Int) ≤ (bK g k : Int)
        · have := e2 c; exact ⟨r.toNat, by omega, by omega⟩
        · exact ⟨0, e1 (by omega), by omega⟩
      have eW7 := K7 _ _ ndW.1 eW
      refine ⟨(1 : Int), (j : Int), rfl, rfl, ?_⟩
      refine ⟨.ref W, rfl, .inl ⟨rfl, _, .inl (.inl eW7)⟩, ?_⟩
      refine ⟨⟨_, rfl⟩, _, rfl, _, rfl, by omega, by omega, fun D nD => lc_range (lo := 0) (n := (1 + (j : Int)).toNat) (PvS (One cs) d l H7 D) (PvS.start D7 nD) (fun i H5 hi p => ⟨rfl, _, rfl, _, rfl, pick_one p.dice c0 c1 fun H2 zs k2 d2 r => p.step D7 nD (by omega) k2 d2 r⟩) (fun H' p => ?_)⟩
      obtain ⟨zss, hl2, hR, K8, D8, e8⟩ := p
      have ⟨f1, f2⟩ := one_flat hR
      refine ⟨_, D, zss.map mkS, rfl, rfl, .inl (SqL.of (by rw [e8, map_sV])), ?_, ?_⟩
      · rw [sum_len, f1, show (("" : Str)).length = 0 from by rw [empty_mk, mkS_len]; rfl]; omega
      · rw [join_mk]
        have fl : zss.flatten.length = 1 + j := by rw [f1, hl2]; omega
        have eW8 := K8 _ _ ndW.1 eW7
        have zc : ∀ c ∈ zss.flatten, c ∈ alpL := fun c hc => cb c (f2 c hc)
        have lt : (Z.map sV).length < sizeLine := by rw [List.length_map, hl]; exact Nat.lt_of_lt_of_le (show k < 100 by omega) (by show 100 ≤ sizeLine; decide)
        refine ⟨W, _, _, rfl, rfl, eW8, lt, ?_⟩
        refine ⟨some (nV k), _, Z ++ [zss.flatten], rfl, ((K6.trans K7).trans K8).mut nWH, D8.at ndW.1 ndW.2, ?_, ?_, ?_, ?_, ?_, ?_⟩
        · rw [List.map_append]; exact upd_same
        · rw [List.length_append, hl]; rfl
        · intro z hz
          rcases List.mem_append.mp hz with hz | hz
          · exact w1 z hz
          · rw [List.mem_singleton.mp hz]
            exact ⟨by omega, fun c hc => (alp_ok c (zc c hc)).1, fun c hc => (alp_ok c (zc c hc)).2⟩
        · intro z hz
          rcases List.mem_append.mp hz with hz | hz
          · exact w2 z hz
          · rw [List.mem_singleton.mp hz]; omega
        · rw [List.map_append, List.sum_append]
          show _ + (zss.flatten.length - 1 + 0) ≤ sumB g k + (bK g k - 1)
          omega
        · intro z hz
          rcases List.mem_append.mp hz with hz | hz
          · exact w4 z hz
          · rw [List.mem_singleton.mp hz]; exact zc
    · rintro σ' H6 ⟨x6, x7, Z, rfl, K6, D6, eW, hl, w1, w2, w3, w4⟩
      exact ⟨_, rfl, q H6 W Z K6 D6 nWH eW ⟨w1, w2, by omega, by omega, Nat.le_trans w3 sb, w4⟩⟩
end
end Vf

set_option Elab.async false
set_option linter.all false
set_option maxRecDepth 100000
set_option maxHeartbeats 4000000
namespace Vf
open PySem PySem.Spec PyProof.Rows L2 TL
/-! ### drawn styles: the mathematics -/
theorem rising_sg : ∀ (p : Nat) (l : List Nat), risingS (sg1 p) (l.map sg1) = true → (∀ x ∈ l, p ≤ x) ∧ l.Pairwise (· ≤ ·)
  | _, [], _ => ⟨(fun _ h => nomatch h), List.Pairwise.nil⟩
  | p, x :: r, h => by
    have h : (!ltCps (sg1 x).cps.toList (sg1 p).cps.toList && risingS (sg1 x) (r.map sg1)) = true := h
    rw [Bool.and_eq_true] at h
    obtain ⟨h1, h2⟩ := rising_sg x r h.2
    have hp : p ≤ x := by
      have h3 := h.1
      have e : ltCps (sg1 x).cps.toList (sg1 p).cps.toList = (decide (x < p) || ((x == p) && false)) := rfl
      rw [e, Bool.and_false, Bool.or_false] at h3
      by_cases c : x < p
      · rw [decide_eq_true c] at h3; cases h3
      · omega
    refine ⟨fun y hy => ?_, List.pairwise_cons.mpr ⟨h1, h2⟩⟩
    rcases List.mem_cons.mp hy with z | z
    · rw [z]; exact hp
    · exact Nat.le_trans hp (h1 y z)
theorem sorted_sg {l : List Nat} (h : sortedS (l.map sg1) = true) : l.Pairwise (· ≤ ·) := by
  cases l with
  | nil => exact .nil
  | cons x r =>
    have h : risingS (sg1 x) (r.map sg1) = true := h
    obtain ⟨h1, h2⟩ := rising_sg x r h
    exact List.pairwise_cons.mpr ⟨h1, h2⟩
theorem sorted_lt {l : List Nat} (h : l.Pairwise (· ≤ ·)) (nd : l.Nodup) : l.Pairwise (· < ·) := (h.and nd).imp fun ⟨a, b⟩ => Nat.lt_of_le_of_ne a b
def le2 (a b : Nat × Nat) : Prop := a.1 < b.1 ∨ (a.1 = b.1 ∧ a.2 ≤ b.2)
theorem sorted_lex {l : List (Nat × Nat)} (h : l.Pairwise le2) (nd : l.Nodup) : l.Pairwise fun a b => lexN [a.1, a.2] [b.1, b.2] = true := (h.and nd).imp fun {a b} ⟨x, y⟩ => by
  show (if a.1 = b.1 then (if a.2 = b.2 then false else decide (a.2 < b.2)) else decide (a.1 < b.1)) = true
  by_cases e : a.1 = b.1
  · rw [if_pos e]
    by_cases e2 : a.2 = b.2
    · exact absurd (Prod.ext e e2) y
    · rw [if_neg e2]
      rcases x with x | x
      · exact absurd e (by omega)
      · exact decide_eq_true (by have := x.2; omega)
  · rw [if_neg e]
    rcases x with x | x
    · exact decide_eq_true x
    · exact absurd x.1 e
theorem fm_succ {α β : Type} {g : α → Option β} {l : List α} {n : Nat} {x : α} (h : l[n]? = some x) : (l.take (n + 1)).filterMap g = (l.take n).filterMap g ++ (g x).toList := by
  rw [take_succ' h, List.filterMap_append]
  have e2 : [x].filterMap g = (g x).toList := by
    cases e : g x with
    | none => rw [List.filterMap_cons_none e]; rfl
    | some y => rw [List.filterMap_cons_some e]; rfl
  rw [e2]
/-- rows by keys that have a value -/
theorem look_fm {κ β : Type} [DecidableEq κ] (f : κ → Option β) (l : List κ) (k : κ) : look (l.filterMap fun c => (f c).map fun p => (c, p)) k = if k ∈ l then f k else none := by
  induction l with
  | nil => rfl
  | cons c l ih =>
    cases e : f c with
    | none =>
      rw [List.filterMap_cons_none (by rw [e]; rfl), ih]
      by_cases h : k ∈ l
      · rw [if_pos h, if_pos (List.mem_cons_of_mem _ h)]
      · rw [if_neg h]
        by_cases h2 : k = c
        · rw [if_pos (by rw [h2]; exact List.mem_cons_self), h2, e]
        · rw [if_neg fun z => (List.mem_cons.mp z).elim h2 h]
    | some p =>
      rw [List.filterMap_cons_some (b := (c, p)) (by rw [e]; rfl)]
      by_cases h2 : c = k
      · subst h2
        rw [if_pos List.mem_cons_self, e]
        exact look_hit
      · rw [look_miss h2, ih]
        by_cases h : k ∈ l
        · rw [if_pos h, if_pos (List.mem_cons_of_mem _ h)]
        · rw [if_neg h, if_neg fun z => (List.mem_cons.mp z).elim (fun y => h2 y.symm) h]
theorem look_key {κ β : Type} [DecidableEq κ] {L : List (κ × β)} {k : κ} (h : k ∈ L.map (·.1)) : ∃ x, look L k = some x := by
  induction L with
  | nil => cases h
  | cons r L ih =>
    by_cases e : r.1 = k
    · exact ⟨r.2, by rw [← e]; exact look_hit⟩
    · rw [look_miss e]
      rcases List.mem_cons.mp h with z | z
      · exact absurd z.symm e
      · exact ih z
theorem look_nokey {κ β : Type} [DecidableEq κ] {L : List (κ × β)} {k : κ} (h : k ∉ L.map (·.1)) : look L k = none := look_none fun r hr e => h (List.mem_map.mpr ⟨r, hr, e⟩)
theorem valV_look {κ : Type} [DecidableEq κ] (kvs : List (κ × V)) (k : κ) : valV kvs k = look kvs k := rfl
def wkV (k : List (Nat × Nat)) : List (Key × V) := k.map fun r => (Sum.inr (sg1 r.1), natV r.2)
def kk2 (k : Nat × Nat) : List Key := [Sum.inr (sg1 k.1), Sum.inr (sg1 k.2)]
def ckV (k : List ((Nat × Nat) × Nat)) : List (List Key × V) := k.map fun r => (kk2 r.1, natV r.2)
def bkV (k : List ((Nat × Nat) × Option Nat)) : List (List Key × V) := k.map fun r => (kk2 r.1, prV r.2)
theorem sg1_inj {a b : Nat} (h : sg1 a = sg1 b) : a = b := by
  have := congrArg (fun t : Str => t.cps.toList) h
  exact (List.cons.inj this).1
theorem kk2_inj {a b : Nat × Nat} (h : kk2 a = kk2 b) : a = b := by
  have h1 := List.cons.inj h
  have h2 := List.cons.inj h1.2
  exact Prod.ext (sg1_inj (Sum.inr.inj h1.1)) (sg1_inj (Sum.inr.inj h2.1))
theorem wkV_get (k : List (Nat × Nat)) (c : Nat) : valV (wkV k) (Sum.inr (sg1 c)) = (look k c).map natV := look_map (f := fun c : Nat => (Sum.inr (sg1 c) : Key)) (g := natV) (fun a b e => sg1_inj (Sum.inr.inj e)) k c
theorem ckV_get (k : List ((Nat × Nat) × Nat)) (c : Nat × Nat) : valV (ckV k) (kk2 c) = (look k c).map natV := look_map (f := kk2) (g := natV) (fun a b e => kk2_inj e) k c
theorem bkV_get (k : List ((Nat × Nat) × Option Nat)) (c : Nat × Nat) : valV (bkV k) (kk2 c) = (look k c).map prV := look_map (f := kk2) (g := prV) (fun a b e => kk2_inj e) k c
theorem wkV_put {k : List (Nat × Nat)} {c x : Nat} (h : look k c = none) : putK (wkV k) (Sum.inr (sg1 c)) (natV x) = wkV (k ++ [(c, x)]) := by
  rw [putK_new _ (by rw [wkV_get, h]; rfl)]
  unfold wkV
  rw [List.map_append]; rfl
theorem ckV_put {k : List ((Nat × Nat) × Nat)} {c : Nat × Nat} {x : Nat} (h : look k c = none) : putK (ckV k) (kk2 c) (natV x) = ckV (k ++ [(c, x)]) := by
  rw [putK_new _ (by rw [ckV_get, h]; rfl)]
  unfold ckV
  rw [List.map_append]; rfl
theorem bkV_put {k : List ((Nat × Nat) × Option Nat)} {c : Nat × Nat} {x : Option Nat} (h : look k c = none) : putK (bkV k) (kk2 c) (prV x) = bkV (k ++ [(c, x)]) := by
  rw [putK_new _ (by rw [bkV_get, h]; rfl)]
  unfold bkV
  rw [List.map_append]; rfl
theorem bkV_again {k : List ((Nat × Nat) × Option Nat)} {c : Nat × Nat} {x y : Option Nat} (h : look k c = none) : putK (bkV (k ++ [(c, x)])) (kk2 c) (prV y) = bkV (k ++ [(c, y)]) := by
  unfold putK
  have e : valV (bkV (k ++ [(c, x)])) (kk2 c) = some (prV x) := by
    rw [bkV_get, look_snoc (fun q hq z => ?_), if_pos rfl]
    · rfl
    · obtain ⟨v, hv⟩ := look_key (L := k) (List.mem_map.mpr ⟨q, hq, z⟩)
      rw [h] at hv; cases hv
  rw [if_pos (by rw [valV_any, e]; rfl)]
  unfold bkV
  rw [List.map_append, List.map_append, List.map_append]
  congr 1
  · rw [List.map_map]
    apply List.map_congr_left
    intro r hr
    show (if kk2 r.1 = kk2 c then (kk2 r.1, prV y) else (kk2 r.1, prV r.2)) = _
    rw [if_neg]
    intro z
    obtain ⟨v, hv⟩ := look_key (L := k) (List.mem_map.mpr ⟨r, hr, kk2_inj z⟩)
    rw [h] at hv; cases hv
  · show [if kk2 c = kk2 c then (kk2 c, prV y) else (kk2 c, prV x)] = _
    rw [if_pos rfl]; rfl
/-- rows as they are gathered -/
def RowsL (H : Hp) (vs : List V) (L : List (List Nat × V)) : Prop := vs.length = L.length ∧ ∀ (i : Nat) (r : List Nat × V), L[i]? = some r → ∃ b : Addr, vs[i]? = some (.ref b) ∧ H b = some (.tup (rowV r))
theorem RowsL.same {H H' : Hp} {vs : List V} {L : List (List Nat × V)} (h : RowsL H vs L) (k : ∀ a xs, H a = some (.tup xs) → H' a = some (.tup xs)) : RowsL H' vs L := ⟨h.1, fun i r e => by
  obtain ⟨b, e1, e2⟩ := h.2 i r e
  exact ⟨b, e1, k _ _ e2⟩⟩
theorem RowsL.snoc {H : Hp} {vs : List V} {L : List (List Nat × V)} {b : Addr} {r : List Nat × V} (h : RowsL H vs L) (hb : H b = some (.tup (rowV r))) : RowsL H (vs ++ [.ref b]) (L ++ [r]) := by
  refine ⟨by rw [List.length_append, List.length_append, h.1]; rfl, fun i q e => ?_⟩
  by_cases hi : i < L.length
  · rw [List.getElem?_append_left hi] at e
    obtain ⟨y, e1, e2⟩ := h.2 i q e
    exact ⟨y, by rw [List.getElem?_append_left (by rw [h.1]; exact hi)]; exact e1, e2⟩
  · rw [List.getElem?_append_right (by omega)] at e
    have e0 : i - L.length = 0 := by
      have := (List.getElem?_eq_some_iff.mp e).1
      simp at this
      exact this
    rw [e0] at e
    have e : r = q := Option.some.inj e
    subst e
    exact ⟨b, by rw [List.getElem?_append_right (by rw [h.1]; omega), h.1, e0]; rfl, hb⟩
theorem RowsL.toV {H : Hp} {a : Addr} {vs : List V} {L : List (List Nat × V)} (h : RowsL H vs L) (e : H a = some (.tup vs)) : RowsV H (.ref a) L := ⟨a, vs, rfl, e, h.1, h.2⟩
def fW (wk : List (Nat × Nat)) (c : Nat) : Option Nat := if 1 < wOf wk c then some (wOf wk c) else none
def fC (ck : List ((Nat × Nat) × Nat)) (k : Nat × Nat) : Option Nat := if 0 < cutOf ck k.1 k.2 then some (cutOf ck k.1 k.2) else none
def fB (bk : List ((Nat × Nat) × Option Nat)) (k : Nat × Nat) : Option Nat := (look bk k).getD none
def rowsOf {κ : Type} (f : κ → Option Nat) (l : List κ) : List (κ × Nat) := l.filterMap fun c => (f c).map fun p => (c, p)
theorem rowsOf_len {κ : Type} (f : κ → Option Nat) (l : List κ) : (rowsOf f l).length ≤ l.length := List.length_filterMap_le _ _
theorem rowsOf_mem {κ : Type} {f : κ → Option Nat} {l : List κ} {r : κ × Nat} (h : r ∈ rowsOf f l) : r.1 ∈ l ∧ f r.1 = some r.2 := by
  obtain ⟨c, hc, e⟩ := List.mem_filterMap.mp h
  cases e2 : f c with
  | none => rw [e2] at e; cases e
  | some p =>
    rw [e2] at e
    have e : (c, p) = r := Option.some.inj e
    subst e
    exact ⟨hc, e2⟩
theorem rowsOf_pw {κ : Type} {R : κ → κ → Prop} {f : κ → Option Nat} {l : List κ} (h : l.Pairwise R) : (rowsOf f l).Pairwise fun a b => R a.1 b.1 := by
  refine List.Pairwise.filterMap _ ?_ h
  intro a b hab p hp q hq
  cases e1 : f a with
  | none => rw [e1] at hp; cases hp
  | some x =>
    cases e2 : f b with
    | none => rw [e2] at hq; cases hq
    | some y =>
      rw [e1] at hp
      rw [e2] at hq
      have hp : (a, x) = p := Option.some.inj hp
      have hq : (b, y) = q := Option.some.inj hq
      subst hp hq
      exact hab
structure Dicts (wk : List (Nat × Nat)) (ck : List ((Nat × Nat) × Nat)) (bk : List ((Nat × Nat) × Option Nat)) : Prop where
  nw : (wk.map (·.1)).Nodup
  w3 : ∀ r ∈ wk, 1 ≤ r.2 ∧ r.2 ≤ 3
  uw : ∀ r ∈ wk, r.1 < 1114112
  lw : wk.length ≤ 60
  nc : (ck.map (·.1)).Nodup
  cb : ck.map (·.1) = bk.map (·.1)
  lc : ck.length ≤ 60
  cw : ∀ r ∈ ck, r.2 < wOf wk r.1.1
  uc : ∀ r ∈ ck, r.1.1 < 1114112 ∧ r.1.2 < 1114112
theorem style_ok {wk : List (Nat × Nat)} {ck : List ((Nat × Nat) × Nat)} {bk : List ((Nat × Nat) × Option Nat)} (D : Dicts wk ck bk) {ys : List Nat} {ks js : List (Nat × Nat)} (h1 : ys.Perm (wk.map (·.1))) (s1 : ys.Pairwise (· ≤ ·)) (h2 : ks.Perm (ck.map (·.1))) (s2 : ks.Pairwise le2) (h3 : js.Perm (bk.map (·.1))) (s3 : js.Pairwise le2) (m dp cl : Int) :
    StyOk ⟨m, dp, cl, rowsOf (fW wk) ys, rowsOf (fC ck) ks, rowsOf (fB bk) js⟩ := by
  have hy : ∀ r ∈ rowsOf (fW wk) ys, ∃ x, look wk r.1 = some x ∧ (r.1, x) ∈ wk := fun r hr => by
    obtain ⟨x, hx⟩ := look_key (h1.mem_iff.mp (rowsOf_mem hr).1)
    exact ⟨x, hx, look_mem hx⟩
  have w1 : ∀ c, 1 ≤ wOf wk c ∧ wOf wk c ≤ 3 := fun c => by
    unfold wOf
    cases e : look wk c with
    | none => exact ⟨Nat.le_refl _, by decide⟩
    | some w => exact D.w3 _ (look_mem e)
  have wl : ∀ c, wOf (rowsOf (fW wk) ys) c = wOf wk c := fun c => by
    show (look (ys.filterMap fun c => (fW wk c).map fun p => (c, p)) c).getD 1 = _
    rw [look_fm]
    by_cases hc : c ∈ ys
    · rw [if_pos hc]
      unfold fW
      by_cases h : 1 < wOf wk c
      · rw [if_pos h]; rfl
      · rw [if_neg h]
        show 1 = _
        have := (w1 c).1
        omega
    · rw [if_neg hc]
      unfold wOf
      rw [look_nokey fun z => hc (h1.mem_iff.mpr z)]
  have nb : (bk.map (·.1)).Nodup := by rw [← D.cb]; exact D.nc
  have ub : ∀ k ∈ bk.map (·.1), k.1 < 1114112 ∧ k.2 < 1114112 := fun k hk => by
    rw [← D.cb] at hk
    obtain ⟨r, hr, rfl⟩ := List.mem_map.mp hk
    exact D.uc r hr
  refine ⟨?_, ?_, ?_, ?_, ?_, ?_, ?_, ?_, ?_, ?_, ?_⟩
  · show (List.map _ (rowsOf (fW wk) ys)).Pairwise _
    rw [List.pairwise_map]
    exact (rowsOf_pw (sorted_lt s1 (h1.nodup_iff.mpr D.nw))).imp fun {a b} h => by
      show (if a.1 = b.1 then false else decide (a.1 < b.1)) = true
      rw [if_neg (by omega)]; exact decide_eq_true h
  · show (List.map _ (rowsOf (fC ck) ks)).Pairwise _
    rw [List.pairwise_map]
    exact rowsOf_pw (sorted_lex s2 (h2.nodup_iff.mpr D.nc))
  · show (List.map _ (rowsOf (fB bk) js)).Pairwise _
    rw [List.pairwise_map]
    exact rowsOf_pw (sorted_lex s3 (h3.nodup_iff.mpr nb))
  · have := rowsOf_len (fW wk) ys
    have e := h1.length_eq
    rw [List.length_map] at e
    have := D.lw
    show (rowsOf (fW wk) ys).length ≤ 100
    omega
  · have := rowsOf_len (fC ck) ks
    have e := h2.length_eq
    rw [List.length_map] at e
    have := D.lc
    show (rowsOf (fC ck) ks).length ≤ 100
    omega
  · have := rowsOf_len (fB bk) js
    have e := h3.length_eq
    rw [← D.cb, List.length_map] at e
    have := D.lc
    show (rowsOf (fB bk) js).length ≤ 100
    omega
  · intro r hr
    have h := (rowsOf_mem hr).2
    unfold fW at h
    by_cases c : 1 < wOf wk r.1
    · rw [if_pos c] at h
      rw [← Option.some.inj h]
      exact w1 _
    · rw [if_neg c] at h; cases h
  · intro r hr c hc
    obtain ⟨q, hq, rfl⟩ := List.mem_map.mp hr
    have hc : c ∈ [q.1] := hc
    rw [List.mem_singleton.mp hc]
    obtain ⟨x, _, hx⟩ := hy q hq
    exact D.uw (q.1, x) hx
  · intro r hr c hc
    obtain ⟨q, hq, rfl⟩ := List.mem_map.mp hr
    have hk := h2.mem_iff.mp (rowsOf_mem hq).1
    obtain ⟨y, hy2, e⟩ := List.mem_map.mp hk
    have u := D.uc y hy2
    rw [e] at u
    have hc : c ∈ [q.1.1, q.1.2] := hc
    rcases List.mem_cons.mp hc with z | z
    · rw [z]; exact u.1
    · rw [List.mem_singleton.mp z]; exact u.2
  · intro r hr c hc
    obtain ⟨q, hq, rfl⟩ := List.mem_map.mp hr
    have u := ub _ (h3.mem_iff.mp (rowsOf_mem hq).1)
    have hc : c ∈ [q.1.1, q.1.2] := hc
    rcases List.mem_cons.mp hc with z | z
    · rw [z]; exact u.1
    · rw [List.mem_singleton.mp z]; exact u.2
  · intro r hr
    have h := (rowsOf_mem hr).2
    show r.2 < wOf (rowsOf (fW wk) ys) r.1.1
    rw [wl]
    unfold fC at h
    by_cases c : 0 < cutOf ck r.1.1 r.1.2
    · rw [if_pos c] at h
      rw [← Option.some.inj h]
      unfold cutOf at c ⊢
      cases e : look ck (r.1.1, r.1.2) with
      | none => rw [e] at c; cases c
      | some x =>
        exact D.cw _ (look_mem e)
    · rw [if_neg c] at h; cases h
end Vf

set_option Elab.async false
set_option linter.all false
set_option maxRecDepth 100000
set_option maxHeartbeats 8000000
namespace Vf
open PySem PySem.Spec PyProof.Rows L2 TL
theorem natOf {r : Int} {n : Nat} (h0 : 0 < n) (h1 : (n : Int) < 2 → r = 0) (h2 : 2 ≤ (n : Int) → 0 ≤ r ∧ r < (n : Int)) : ∃ j : Nat, r = (j : Int) ∧ j < n := by
  by_cases c : (2 : Int) ≤ n
  · have := h2 c; exact ⟨r.toNat, by omega, by omega⟩
  · exact ⟨0, h1 (by omega), h0⟩
theorem in_keys_snoc {κ β : Type} {L : List (κ × β)} {r : κ × β} {k : κ} : k ∈ (L ++ [r]).map (·.1) ↔ k ∈ L.map (·.1) ∨ k = r.1 := by
  rw [List.map_append, List.mem_append]
  exact or_congr Iff.rfl List.mem_singleton
theorem nd_keys_snoc {κ β : Type} [DecidableEq κ] {L : List (κ × β)} {r : κ × β} (h : (L.map (·.1)).Nodup) (e : look L r.1 = none) : ((L ++ [r]).map (·.1)).Nodup := by
  rw [List.map_append]
  refine nd_snoc h fun m => ?_
  obtain ⟨x, hx⟩ := look_key m
  rw [e] at hx; cases hx
structure WkI (t : List Nat) (n : Nat) (wk : List (Nat × Nat)) : Prop where
  len : wk.length ≤ n
  nd : (wk.map (·.1)).Nodup
  w3 : ∀ r ∈ wk, 1 ≤ r.2 ∧ r.2 ≤ 3
  has : ∀ c ∈ t.take n, c ∈ wk.map (·.1)
  from_ : ∀ r ∈ wk, r.1 ∈ t
theorem WkI.old {t : List Nat} {n c : Nat} {wk : List (Nat × Nat)} (h : WkI t n wk) (hc : t[n]? = some c) (hk : c ∈ wk.map (·.1)) : WkI t (n + 1) wk :=
  ⟨Nat.le_succ_of_le h.len, h.nd, h.w3, fun x hx => by
    rw [take_succ' hc] at hx
    rcases List.mem_append.mp hx with z | z
    · exact h.has x z
    · rw [List.mem_singleton.mp z]; exact hk, h.from_⟩
theorem WkI.new {t : List Nat} {n c x : Nat} {wk : List (Nat × Nat)} (h : WkI t n wk) (hc : t[n]? = some c) (hk : look wk c = none) (hx : 1 ≤ x ∧ x ≤ 3) : WkI t (n + 1) (wk ++ [(c, x)]) :=
  ⟨by rw [List.length_append]; exact Nat.succ_le_succ h.len, nd_keys_snoc (r := (c, x)) h.nd hk, fun r hr => by
    rcases List.mem_append.mp hr with z | z
    · exact h.w3 r z
    · rw [List.mem_singleton.mp z]; exact hx, fun y hy => by
    rw [take_succ' hc] at hy
    rw [in_keys_snoc]
    rcases List.mem_append.mp hy with z | z
    · exact .inl (h.has y z)
    · exact .inr (List.mem_singleton.mp z), fun r hr => by
    rcases List.mem_append.mp hr with z | z
    · exact h.from_ r z
    · rw [List.mem_singleton.mp z]; exact List.mem_of_getElem? hc⟩
structure CkI (wk : List (Nat × Nat)) (n : Nat) (ck : List ((Nat × Nat) × Nat)) (bk : List ((Nat × Nat) × Option Nat)) : Prop where
  len : ck.length ≤ n
  nd : (ck.map (·.1)).Nodup
  cb : ck.map (·.1) = bk.map (·.1)
  cw : ∀ r ∈ ck, r.2 < wOf wk r.1.1
  uc : ∀ r ∈ ck, r.1.1 < 1114112 ∧ r.1.2 < 1114112
theorem CkI.up {wk : List (Nat × Nat)} {n : Nat} {ck : List ((Nat × Nat) × Nat)} {bk : List ((Nat × Nat) × Option Nat)} (h : CkI wk n ck bk) {m : Nat} (hm : n ≤ m) : CkI wk m ck bk := ⟨Nat.le_trans h.len hm, h.nd, h.cb, h.cw, h.uc⟩
theorem CkI.new {wk : List (Nat × Nat)} {n : Nat} {ck : List ((Nat × Nat) × Nat)} {bk : List ((Nat × Nat) × Option Nat)} (h : CkI wk n ck bk) {k : Nat × Nat} (hk : look ck k = none) {x : Nat} (hx : x < wOf wk k.1) (hu : k.1 < 1114112 ∧ k.2 < 1114112) (o : Option Nat) : CkI wk (n + 1) (ck ++ [(k, x)]) (bk ++ [(k, o)]) :=
  ⟨by rw [List.length_append]; exact Nat.succ_le_succ h.len, nd_keys_snoc (r := (k, x)) h.nd hk, by rw [List.map_append, List.map_append, h.cb]; rfl, fun r hr => by
    rcases List.mem_append.mp hr with z | z
    · exact h.cw r z
    · rw [List.mem_singleton.mp z]; exact hx, fun r hr => by
    rcases List.mem_append.mp hr with z | z
    · exact h.uc r z
    · rw [List.mem_singleton.mp z]; exact hu⟩
theorem CkI.bnone {wk : List (Nat × Nat)} {n : Nat} {ck : List ((Nat × Nat) × Nat)} {bk : List ((Nat × Nat) × Option Nat)} (h : CkI wk n ck bk) {k : Nat × Nat} (hk : look ck k = none) : look bk k = none := by
  apply look_nokey
  rw [← h.cb]
  intro m
  obtain ⟨x, hx⟩ := look_key m
  rw [hk] at hx; cases hx
theorem keepT {H : Hp} {F : Addr} {vs us : List V} (e : H F = some (.lst vs)) : ∀ a xs, H a = some (.tup xs) → upd H F (.lst us) a = some (.tup xs) := fun a xs h => by
  rw [upd_ne (fun z => by rw [z, e] at h; cases h)]; exact h
theorem rowsOf_succ {κ : Type} {f : κ → Option Nat} {l : List κ} {n : Nat} {x : κ} (h : l[n]? = some x) : rowsOf f (l.take (n + 1)) = rowsOf f (l.take n) ++ ((f x).map fun p => (x, p)).toList := fm_succ h
theorem mem_of_at' {zs : List Nat} {k c : Nat} (h : (mkS zs).cps.toList[k]? = some c) : c ∈ zs := List.mem_of_getElem? (show zs[k]? = some c from h)
theorem Kp.freeY {d l p : Addr} {H H' : Hp} (k : Kp d H H') (D : DI d l H') (n : H' p = none) : H p = none := by
  cases e : H p with
  | none => rfl
  | some o =>
    have h := k p o (D.nd n).1 e
    rw [n] at h; cases h
theorem nd_len {l m : List Nat} (h : l.Nodup) (s : ∀ x ∈ l, x ∈ m) : l.length ≤ m.length := by
  induction l generalizing m with
  | nil => exact Nat.zero_le _
  | cons a r ih =>
    have ⟨h1, h2⟩ := List.nodup_cons.mp h
    have ha := s a (List.mem_cons_self ..)
    have := ih (m := m.erase a) h2 fun x hx => (List.mem_erase_of_ne (fun z => h1 (by rw [← z]; exact hx))).mpr (s x (List.mem_cons_of_mem _ hx))
    rw [List.length_erase_of_mem ha] at this
    have hp : 0 < m.length := List.length_pos_of_mem ha
    show r.length + 1 ≤ _
    omega
theorem dw_flat : ∀ Z : List (List Nat), Z.flatten.length ≤ (Z.map fun z => z.length - 1).sum + Z.length
  | [] => Nat.le_refl _
  | z :: r => by
    have := dw_flat r
    rw [List.flatten_cons, List.length_append, List.map_cons, List.sum_cons, List.length_cons]
    omega
theorem wkV_again {k : List (Nat × Nat)} {c x y : Nat} (h : look k c = none) : putK (wkV (k ++ [(c, x)])) (Sum.inr (sg1 c)) (natV y) = wkV (k ++ [(c, y)]) := by
  unfold putK
  have e : valV (wkV (k ++ [(c, x)])) (Sum.inr (sg1 c)) = some (natV x) := by
    rw [wkV_get, look_snoc (fun q hq z => ?_), if_pos rfl]
    · rfl
    · obtain ⟨v, hv⟩ := look_key (L := k) (List.mem_map.mpr ⟨q, hq, z⟩)
      rw [h] at hv; cases hv
  rw [if_pos (by rw [valV_any, e]; rfl)]
  unfold wkV
  rw [List.map_append, List.map_append, List.map_append]
  congr 1
  · rw [List.map_map]
    apply List.map_congr_left
    intro r hr
    show (if (Sum.inr (sg1 r.1) : Key) = Sum.inr (sg1 c) then ((Sum.inr (sg1 r.1) : Key), natV y) else (Sum.inr (sg1 r.1), natV r.2)) = _
    rw [if_neg]
    intro z
    obtain ⟨v, hv⟩ := look_key (L := k) (List.mem_map.mpr ⟨r, hr, sg1_inj (Sum.inr.inj z)⟩)
    rw [h] at hv; cases hv
  · show [if (Sum.inr (sg1 c) : Key) = Sum.inr (sg1 c) then ((Sum.inr (sg1 c) : Key), natV y) else (Sum.inr (sg1 c), natV x)] = _
    rw [if_pos rfl]; rfl
def sumTo (Z : List (List Nat)) (i : Nat) : Nat := ((Z.take i).map fun z => z.length - 1).sum
theorem sumTo_succ {Z : List (List Nat)} {i : Nat} {z : List Nat} (h : Z[i]? = some z) : sumTo Z (i + 1) = sumTo Z i + (z.length - 1) := by
  unfold sumTo
  rw [take_succ' h, List.map_append, List.sum_append]; rfl
theorem sumTo_le {Z : List (List Nat)} {i : Nat} : sumTo Z i ≤ (Z.map fun z => z.length - 1).sum := by
  have e := List.take_append_drop i Z
  have : ((Z.take i ++ Z.drop i).map fun z => z.length - 1).sum = (Z.map fun z => z.length - 1).sum := by rw [e]
  rw [List.map_append, List.sum_append] at this
  unfold sumTo
  omega
section
variable {P : Program} {w : World} {K : PySem.W.Frag} {mg : Str → Option Value} {base : Heap}
def PrS (H : Hp) (v : V) : Prop := ∃ (a p : Addr) (x1 x2 x3 x4 x5 x6 : V) (ps : List Nat), v = .ref a ∧ H a = some (.tup [x1, x2, x3, x4, x5, x6, .ref p]) ∧ H p = some (.tup (ps.map natV)) ∧ ps.length = 5 ∧ ∀ x ∈ ps, x ≤ 999
def spStyleN : Sp := fun vs H Q _ => ∃ (d l wl : Addr) (Z : List (List Nat)), vs = [.ref d, .ref wl] ∧ DI d l H ∧ wl ≠ d ∧ H wl = some (.lst (Z.map sV)) ∧ DwOk Z ∧ ∀ H' v S, Kp d H H' → DI d l H' → StyV H' v S → PrS H' v → StyOk S → Q v H'
theorem ok_style_n (T : Txt K mg) : FnOk P w K mg base CX0 3 T.a_law_style_for T.d_law_style_for ["_law_d", "_law_words"] spStyleN := by
  have G_law_draw : FnOk P w K mg base CX0 1 T.a_law_draw T.d_law_draw ["_law_d", "_law_many"] spDraw := ok_draw T
  have G_law_pick : FnOk P w K mg base CX0 2 T.a_law_pick T.d_law_pick ["_law_d", "_law_row"] (spPick K) := ok_pick T
  refine T.D_law_style_for.F.ok sc_law_style_for (fun vs H Q E h => ?_) (fun cdv A outer s H vs Q E hr h => ?_)
  · obtain ⟨d, l, wl, Z, rfl, _⟩ := h
    rfl
  · obtain ⟨d, l, wl, Z, rfl, hD, nwl, eW, hZ, q⟩ := h
    refine ⟨_, (pss_cons (ps_set (i := 2) sc_law_style_for.nd rfl (.inl rfl) (pe_cmpR op_eq (pe_call G_law_draw (hr.mono (by decide)) (by rfl) T.D_law_draw.G T.D_law_draw.F.kp T.D_law_draw.B .nil pass0 (pa_cons (pv 0) (pa_cons pe_int pa_nil))) pe_int (nomark _)))
      (pss_cons (ps_set (i := 3) sc_law_style_for.nd rfl (.inr rfl) pe_dnewK)
      (pss_cons (ps_for PassesOwn.never rfl (pi_str (pe_op op_add_str (pe_join pe_str (pv 1)) pe_str)) (pg_name (i := 4) sc_law_style_for.nd rfl (.inl rfl)) (pss_one (ps_if (pt_cmp (pc_dnotin (hu1 hr) (pv 4) (pv 3))) (pss_cons (ps_dput (hu1 hr) (pv 3) (pv 4) (pe_op op_add pe_int (pe_call G_law_draw (hr.mono (by decide)) (by rfl) T.D_law_draw.G T.D_law_draw.F.kp T.D_law_draw.B .nil pass0 (pa_cons (pv 0) (pa_cons pe_int pa_nil)))) rfl)
      (pss_one (ps_if (pt_val (pv 2)) (pss_one (ps_dput (hu1 hr) (pv 3) (pv 4) (pe_ifExp (pt_cmpR op_in_sign (pv 4) pe_str (by rfl)) pe_int pe_int) rfl)) pss_nil))) pss_nil)))
      (pss_cons (ps_set (i := 5) sc_law_style_for.nd rfl (.inr rfl) pe_dnewT)
      (pss_cons (ps_set (i := 6) sc_law_style_for.nd rfl (.inr rfl) pe_dnewT)
      (pss_cons (ps_set (i := 7) sc_law_style_for.nd rfl (.inl rfl) (pe_call G_law_pick (hr.mono (by decide)) (by rfl) T.D_law_pick.G T.D_law_pick.F.kp T.D_law_pick.B .nil pass0 (pa_cons (pv 0) (pa_cons (pe_lst (pa_cons (pe_lst (pa_cons pe_non (pa_cons pe_int (pa_cons pe_int (pa_cons pe_int pa_nil))))) (pa_cons (pe_lst (pa_cons pe_non (pa_cons pe_int (pa_cons pe_int (pa_cons pe_int pa_nil))))) (pa_cons (pe_lst (pa_cons pe_non (pa_cons pe_int (pa_cons pe_int (pa_cons pe_int pa_nil))))) (pa_cons (pe_lst (pa_cons pe_non (pa_cons pe_int (pa_cons pe_int (pa_cons pe_int pa_nil))))) pa_nil))))) pa_nil))))
      (pss_cons (ps_for PassesOwn.never rfl (pi_list (pv 1)) (pg_name (i := 8) sc_law_style_for.nd rfl (.inl rfl)) (pss_one (ps_for PassesOwn.never rfl (pi_range2 (by rfl) T.n_range (pa_cons pe_int (pa_cons (pe_callB call_len_str (by rfl) T.n_len PySem.boot_len (pa_cons (pv 8) pa_nil)) pa_nil))) (pg_name (i := 9) sc_law_style_for.nd rfl (.inl rfl)) (pss_cons (ps_set (i := 10) sc_law_style_for.nd rfl (.inl rfl) (pe_tup (pa_cons (pe_ix ix_str (pv 8) (pe_op op_sub (pv 9) pe_int) (fun _ _ => rfl)) (pa_cons (pe_ix ix_str (pv 8) (pv 9) (fun _ _ => rfl)) pa_nil))))
      (pss_one (ps_if (pt_cmp (pc_dnotin (hu1 hr) (pv 10) (pv 5))) (pss_cons (ps_dput (hu1 hr) (pv 5) (pv 10) (pe_ifExp (pt_val (pv 2)) (pe_op op_sub (pe_dget (hu1 hr) (pv 3) (pe_ix ix_str (pv 8) (pe_op op_sub (pv 9) pe_int) (fun _ _ => rfl)) (fun _ _ => rfl)) pe_int) (pe_call G_law_draw (hr.mono (by decide)) (by rfl) T.D_law_draw.G T.D_law_draw.F.kp T.D_law_draw.B .nil pass0 (pa_cons (pv 0) (pa_cons (pe_dget (hu1 hr) (pv 3) (pe_ix ix_str (pv 8) (pe_op op_sub (pv 9) pe_int) (fun _ _ => rfl)) (fun _ _ => rfl)) pa_nil)))) rfl)
      (pss_cons (ps_dput (hu1 hr) (pv 6) (pv 10) pe_non rfl)
      (pss_one (ps_if (PW.pt (pw_and (pt_val (pe_bm0 PySem.F.plainAttrs_str PySem.F.slot_str_islower PySem.F.type_str_islower mt_islower (pe_slice sl_str (pv 8) (po_some (pe_op op_sub (pv 9) pe_int)) (po_some (pe_op op_add (pv 9) pe_int))))) (pw_and1 (pt_val (pe_bm0 PySem.F.plainAttrs_str PySem.F.slot_str_isalpha PySem.F.type_str_isalpha mt_isalpha (pe_slice sl_str (pv 8) (po_some (pe_op op_sub (pv 9) pe_int)) (po_some (pe_op op_add (pv 9) pe_int)))))))) (pss_one (ps_dput (hu1 hr) (pv 6) (pv 10) (pe_call G_law_pick (hr.mono (by decide)) (by rfl) T.D_law_pick.G T.D_law_pick.F.kp T.D_law_pick.B .nil pass0 (pa_cons (pv 0) (pa_cons (pv 7) pa_nil))) rfl)) pss_nil)))) pss_nil))))))
      (pss_cons (ps_setLc (i := 11) (own := [("_law_sign", 4)]) (g := gName 4) rfl sc_law_style_for.nd rfl rfl (sw_true rfl rfl rfl (by decide +kernel)) (pi_list (pe_callB (call_sortedD (by rfl)) (by rfl) T.n_sorted (by decide +kernel) (pa_cons (pv 3) pa_nil))) (blkOk_by (own := [("_law_sign", 4)]) (N := ["_law_d", "_law_words", "_law_steep", "_law_wide", "_law_sign", "_law_cuts", "_law_breaks", "_law_dear", "_law_word", "_law_k", "_law_pair", "_law_widths", "_law_cut_rows", "_law_break_rows", "_law_prices"]) (sc := (defScope s_law_style_for)) (by decide +kernel)) (fun _ _ _ _ _ => (pg_name (i := 4) sc_law_style_for.nd rfl (.inl rfl))) (fun _ _ _ _ _ => (pts_one (pt_cmpR op_gt (pe_dget (hu1 hr) (pv 3) (pv 4) (fun _ _ => rfl)) pe_int (nomark _)))) (fun _ _ _ _ _ => (pe_tup (pa_cons (pv 4) (pa_cons (pe_dget (hu1 hr) (pv 3) (pv 4) (fun _ _ => rfl)) pa_nil)))))
      (pss_cons (ps_setLc (i := 12) (own := [("_law_pair", 10)]) (g := gName 10) rfl sc_law_style_for.nd rfl rfl (sw_true rfl rfl rfl (by decide +kernel)) (pi_list (pe_callB (call_sortedDS (by rfl)) (by rfl) T.n_sorted (by decide +kernel) (pa_cons (pv 5) pa_nil))) (blkOk_by (own := [("_law_pair", 10)]) (N := ["_law_d", "_law_words", "_law_steep", "_law_wide", "_law_sign", "_law_cuts", "_law_breaks", "_law_dear", "_law_word", "_law_k", "_law_pair", "_law_widths", "_law_cut_rows", "_law_break_rows", "_law_prices"]) (sc := (defScope s_law_style_for)) (by decide +kernel)) (fun _ _ _ _ _ => (pg_name (i := 10) sc_law_style_for.nd rfl (.inl rfl))) (fun _ _ _ _ _ => (pts_one (pt_cmpR op_gt (pe_dget (hu1 hr) (pv 5) (pv 10) (fun _ _ => rfl)) pe_int (nomark _)))) (fun _ _ _ _ _ => (pe_op (r := rCatA K) op_catA (pv 10) (pe_tup (pa_cons (pe_dget (hu1 hr) (pv 5) (pv 10) (fun _ _ => rfl)) pa_nil)))))
      (pss_cons (ps_setLc (i := 13) (own := [("_law_pair", 10)]) (g := gName 10) rfl sc_law_style_for.nd rfl rfl (sw_true rfl rfl rfl (by decide +kernel)) (pi_list (pe_callB (call_sortedDS (by rfl)) (by rfl) T.n_sorted (by decide +kernel) (pa_cons (pv 6) pa_nil))) (blkOk_by (own := [("_law_pair", 10)]) (N := ["_law_d", "_law_words", "_law_steep", "_law_wide", "_law_sign", "_law_cuts", "_law_breaks", "_law_dear", "_law_word", "_law_k", "_law_pair", "_law_widths", "_law_cut_rows", "_law_break_rows", "_law_prices"]) (sc := (defScope s_law_style_for)) (by decide +kernel)) (fun _ _ _ _ _ => (pg_name (i := 10) sc_law_style_for.nd rfl (.inl rfl))) (fun _ _ _ _ _ => (pts_one (pt_cmpR op_notN (pe_dget (hu1 hr) (pv 6) (pv 10) (fun _ _ => rfl)) pe_non (nomark _)))) (fun _ _ _ _ _ => (pe_op (r := rCatA K) op_catA (pv 10) (pe_tup (pa_cons (pe_dget (hu1 hr) (pv 6) (pv 10) (fun _ _ => rfl)) pa_nil)))))
      (pss_cons (ps_set (i := 14) sc_law_style_for.nd rfl (.inl rfl) (pe_callTy call_tuple_of (by rfl) T.n_tuple (by decide +kernel) (pa_cons (pe_lc (own := [("_law_k", 9)]) (g := gName 9) (tt := tYes) rfl sc_law_style_for.nd (pi_range1 (by rfl) T.n_range (pa_cons pe_int pa_nil)) (blkOk_by (own := [("_law_k", 9)]) (N := ["_law_d", "_law_words", "_law_steep", "_law_wide", "_law_sign", "_law_cuts", "_law_breaks", "_law_dear", "_law_word", "_law_k", "_law_pair", "_law_widths", "_law_cut_rows", "_law_break_rows", "_law_prices"]) (sc := (defScope s_law_style_for)) (by decide +kernel)) (fun _ _ _ _ _ => (pg_name (i := 9) sc_law_style_for.nd rfl (.inl rfl))) (fun _ _ _ _ _ => pts_nil) (fun _ _ _ _ _ => (pe_call G_law_pick (hr.mono (by decide)) (by rfl) T.D_law_pick.G T.D_law_pick.F.kp T.D_law_pick.B .nil pass0 (pa_cons (pv 0) (pa_cons (pe_lst (pa_cons pe_int (pa_cons pe_int (pa_cons pe_int (pa_cons pe_int (pa_cons pe_int pa_nil)))))) pa_nil))))) pa_nil)))
      (pss_one (ps_ret (pe_tup (pa_cons (pe_op op_add pe_int (pe_call G_law_draw (hr.mono (by decide)) (by rfl) T.D_law_draw.G T.D_law_draw.F.kp T.D_law_draw.B .nil pass0 (pa_cons (pv 0) (pa_cons pe_int pa_nil)))) (pa_cons (pe_op op_add pe_int (pe_call G_law_draw (hr.mono (by decide)) (by rfl) T.D_law_draw.G T.D_law_draw.F.kp T.D_law_draw.B .nil pass0 (pa_cons (pv 0) (pa_cons pe_int pa_nil)))) (pa_cons (pe_op op_add pe_int (pe_call G_law_draw (hr.mono (by decide)) (by rfl) T.D_law_draw.G T.D_law_draw.F.kp T.D_law_draw.B .nil pass0 (pa_cons (pv 0) (pa_cons pe_int pa_nil)))) (pa_cons (pe_callTy call_tuple_of (by rfl) T.n_tuple (by decide +kernel) (pa_cons (pv 11) pa_nil)) (pa_cons (pe_callTy call_tuple_of (by rfl) T.n_tuple (by decide +kernel) (pa_cons (pv 12) pa_nil)) (pa_cons (pe_callTy call_tuple_of (by rfl) T.n_tuple (by decide +kernel) (pa_cons (pv 13) pa_nil)) (pa_cons (pv 14) pa_nil))))))))))))))))))))), ?_⟩
    refine ⟨_, rfl, d, l, 3, rfl, hD, by decide, fun H0 r0 K0 D0 _ _ => ?_⟩
    refine ⟨rfl, ?_⟩
    generalize decide (V.int r0 = V.int 1) = st
    refine fun W nW => ?_
    have ndW := D0.nd nW
    have eW0 := K0 _ _ nwl eW
    have wlW : wl ≠ W := fun z => by rw [z, nW] at eW0; cases eW0
    have nWH := K0.freeY D0 nW
    obtain ⟨t, ht⟩ : ∃ t, t = Z.flatten ++ [42, 48, 122] := ⟨_, rfl⟩
    have fl90 : Z.flatten.length ≤ 90 := by have := dw_flat Z; have := hZ.sm; have := hZ.ln; omega
    have lt93 : t.length ≤ 93 := by rw [ht, List.length_append]; show _ + 3 ≤ _; omega
    have ta : ∀ c ∈ t, c ∈ alpL := by
      intro c hc
      rw [ht] at hc
      rcases List.mem_append.mp hc with z | z
      · obtain ⟨y, hy, hcy⟩ := List.mem_flatten.mp z
        exact hZ.al y hy c hcy
      · exact (show ∀ c ∈ [42, 48, 122], c ∈ alpL by decide +kernel) c z
    have tu : ∀ c ∈ t, c < 1114112 := fun c hc => (alp_ok c (ta c hc)).1
    have tw : ∀ z ∈ Z, ∀ c ∈ z, c ∈ t := fun z hz c hc => by
      rw [ht]
      exact List.mem_append_left _ (List.mem_flatten.mpr ⟨z, hz, hc⟩)
    have K1 := K0.new (o := .dK []) nW
    have D1 := D0.new (o := .dK []) nW
    have ej : Txt.join ("" : Str) (Z.map mkS) = mkS Z.flatten := join_mk Z
    have e0 : (("" : Str)).length = 0 := by rw [empty_mk, mkS_len]; rfl
    have e3 : (("*0z" : Str)) = mkS [42, 48, 122] := by decide +kernel
    refine ⟨⟨_, rfl⟩, _, rfl, _, wl, Z.map mkS, rfl, rfl, .inl (SqL.of (by rw [upd_ne wlW, ← map_sV]; exact eW0)), ?_, _, _, rfl, rfl, ?_, ?_⟩
    · rw [sum_len, e0]; omega
    · rw [ej, e3, mkS_len, mkS_len]; exact big_ok (by show _ + 3 ≤ _; omega)
    rw [ej, e3, mkS_app, ← ht]
    refine ⟨_, rfl, for_it walk_str (fun n σ' H' => ∃ (x3 : Option V) (wk : List (Nat × Nat)), σ' = [some (.ref d), some (.ref wl), some (.bl st), some (.ref W), x3, none, none, none, none, none, none, none, none, none, none] ∧ Kp d H H' ∧ DI d l H' ∧ H' W = some (.dK (wkV wk)) ∧ WkI t n wk)
      ⟨none, [], rfl, K1, D1, upd_same, Nat.le_refl _, .nil, (fun _ h => nomatch h), (fun _ h => by simp at h), (fun _ h => nomatch h)⟩ (fun _ _ _ _ _ => trivial) ?_ ?_⟩
    · rintro n x σ' H1 H2 hn ⟨x3, wk, rfl, K2, D2, e1, hw⟩ ⟨rfl, c, hc, rfl⟩
      have hc : t[n]? = some c := by rw [← Array.getElem?_toList] at hc; exact hc
      have hn : n < t.length := (List.getElem?_eq_some_iff.mp hc).1
      have g : DGet H2 W (sgn c) ((look wk c).map natV) := by rw [← wkV_get]; exact DGet.k (k := Sum.inr (sg1 c)) e1
      refine ⟨_, rfl, _, rfl, W, _, rfl, g, ?_⟩
      cases e : look wk c with
      | some x =>
        refine ⟨false, rfl, some (sgn c), wk, rfl, K2, D2, e1, hw.old hc ?_⟩
        exact List.mem_map.mpr ⟨_, look_mem e, rfl⟩
      | none =>
        refine ⟨true, rfl, ?_⟩
        refine ⟨_, rfl, d, l, _, rfl, D2, by decide, fun H3 r K3 D3 _ r2 => ?_⟩
        have r2 := r2 (by decide)
        obtain ⟨x, hx⟩ : ∃ x : Nat, (1 : Int) + r = (x : Int) := ⟨(1 + r).toNat, by omega⟩
        have e3 := K3 _ _ ndW.1 e1
        have szw : ∀ y, (wkV (wk ++ [(c, y)])).length < sizeLine := fun y => by
          unfold wkV
          rw [List.length_map, List.length_append]; have := hw.len; exact lt_s (by show _ + 1 < _; omega)
        refine ⟨_, _, rfl, rfl, _, rfl, _, rfl, W, _, rfl, DPut.k (k := Sum.inr (sg1 c)) e3 ?_, ?_⟩
        · unfold wkV
          rw [List.length_map]; have := hw.len; exact lt_s (by omega)
        have K4 := (K2.trans K3).mut (o := .dK (putK (wkV wk) (Sum.inr (sg1 c)) (V.int (1 + r)))) nWH
        have D4 := D3.at (o := .dK (putK (wkV wk) (Sum.inr (sg1 c)) (V.int (1 + r)))) ndW.1 ndW.2
        have e4 : upd H3 W (.dK (putK (wkV wk) (Sum.inr (sg1 c)) (V.int (1 + r)))) W = some (.dK (wkV (wk ++ [(c, x)]))) := by
          rw [upd_same, ← wkV_put e]
          show some (HO.dK (putK (wkV wk) (Sum.inr (sg1 c)) (V.int (1 + r)))) = _
          rw [hx]; rfl
        generalize upd H3 W (.dK (putK (wkV wk) (Sum.inr (sg1 c)) (V.int (1 + r)))) = H4 at K4 D4 e4
        refine ⟨_, rfl, st, rfl, ?_⟩
        cases st with
        | false => exact ⟨some (sgn c), wk ++ [(c, x)], rfl, K4, D4, e4, hw.new hc e (by omega)⟩
        | true =>
          have fin : ∀ y : Nat, 1 ≤ y ∧ y ≤ 3 → ∃ kvs, H4 W = some (.dK kvs) ∧ kvs.length < sizeLine ∧ Kp d H (upd H4 W (.dK (putK kvs (Sum.inr (sg1 c)) (natV y)))) ∧ DI d l (upd H4 W (.dK (putK kvs (Sum.inr (sg1 c)) (natV y)))) ∧ upd H4 W (.dK (putK kvs (Sum.inr (sg1 c)) (natV y))) W = some (.dK (wkV (wk ++ [(c, y)]))) ∧ WkI t (n + 1) (wk ++ [(c, y)]) := fun y hy =>
            ⟨_, e4, szw x, K4.mut nWH, D4.at ndW.1 ndW.2, by rw [upd_same, wkV_again e], hw.new hc e hy⟩
          refine ⟨_, rfl, c, _, rfl, rfl, _, rfl, ?_⟩
          refine ite2 (fun c9 => ?_) (fun c9 => ?_)
          · obtain ⟨kvs, f1, f2, f3, f4, f5, f6⟩ := fin 3 (by decide)
            exact ⟨_, rfl, _, rfl, W, _, rfl, DPut.k (k := Sum.inr (sg1 c)) f1 f2, some (sgn c), wk ++ [(c, 3)], rfl, f3, f4, f5, f6⟩
          · obtain ⟨kvs, f1, f2, f3, f4, f5, f6⟩ := fin 1 (by decide)
            exact ⟨_, rfl, _, rfl, W, _, rfl, DPut.k (k := Sum.inr (sg1 c)) f1 f2, some (sgn c), wk ++ [(c, 1)], rfl, f3, f4, f5, f6⟩
    · rintro σ' H1 ⟨x3, wk, rfl, K1, D1, e1, hw⟩
      have hw : WkI t t.length wk := hw
      have l52 : wk.length ≤ 52 := by
        have := nd_len hw.nd (m := alpL) fun x hx => by
          obtain ⟨r, hr, rfl⟩ := List.mem_map.mp hx
          exact ta _ (hw.from_ r hr)
        rw [List.length_map] at this
        exact Nat.le_trans this (show alpL.length ≤ 52 by decide +kernel)
      have hasW : ∀ z ∈ Z, ∀ c ∈ z, ∃ x, look wk c = some x ∧ 1 ≤ x ∧ x ≤ 3 := fun z hz c hc => by
        obtain ⟨x, hx⟩ := look_key (hw.has c (by rw [List.take_length]; exact tw z hz c hc))
        exact ⟨x, hx, hw.w3 _ (look_mem hx)⟩
      refine fun C nC => ?_
      have ndC := D1.nd nC
      have nC0 := K1.freeY D1 nC
      have hCW : C ≠ W := fun z => by rw [z, e1] at nC; cases nC
      have K2 := K1.new (o := .dT []) nC
      have D2 := D1.new (o := .dT []) nC
      refine fun B nB => ?_
      have ndB := D2.nd nB
      have nB0 := K2.freeY D2 nB
      have hBC : B ≠ C := fun z => by rw [z, upd_same] at nB; cases nB
      have hBW : B ≠ W := fun z => by rw [z, upd_ne hCW.symm, e1] at nB; cases nB
      have K3 := K2.new (o := .dT []) nB
      have D3 := D2.new (o := .dT []) nB
      have eW3 : upd (upd H1 C (.dT [])) B (.dT []) W = some (.dK (wkV wk)) := by rw [upd_ne hBW.symm, upd_ne hCW.symm]; exact e1
      have eC3 : upd (upd H1 C (.dT [])) B (.dT []) C = some (.dT (ckV [])) := by rw [upd_ne hBC.symm, upd_same]; rfl
      have eB3 : upd (upd H1 C (.dT [])) B (.dT []) B = some (.dT (bkV [])) := by rw [upd_same]; rfl
      have keepW : ∀ {H' : Hp}, Kp d H H' → H' wl = some (.lst (Z.map sV)) := fun k => k _ _ nwl eW
      generalize upd (upd H1 C (.dT [])) B (.dT []) = H3 at K3 D3 eW3 eC3 eB3
      have sz4 : ∀ xs : List V, xs.length ≤ 10 → xs.length ≤ sizeLine := fun xs h => Nat.le_of_lt (lt_s (by omega))
      refine ⟨_, rfl, ?_⟩
      refine ⟨sz4 _ (by simp), fun p1 np1 => ?_⟩
      refine ⟨sz4 _ (by simp), fun p2 np2 => ?_⟩
      refine ⟨sz4 _ (by simp), fun p3 np3 => ?_⟩
      refine ⟨sz4 _ (by simp), fun p4 np4 => ?_⟩
      refine ⟨sz4 _ (by simp), fun p5 np5 => ?_⟩
      have s1 := same_upd (o := .lst [V.non, V.int 0, V.int 0, V.int 0]) (Same.refl H3) np1
      have s2 := same_upd (o := .lst [V.non, V.int 0, V.int 1, V.int 4]) (Same.refl _) np2
      have s3 := same_upd (o := .lst [V.non, V.int 0, V.int 20, V.int 999]) (Same.refl _) np3
      have s4 := same_upd (o := .lst [V.non, V.int 2, V.int 30, V.int 100]) (Same.refl _) np4
      have s5 := same_upd (o := .lst [V.ref p1, V.ref p2, V.ref p3, V.ref p4]) (Same.refl _) np5
      have s25 := s2.trans (s3.trans (s4.trans s5))
      have s35 := s3.trans (s4.trans s5)
      have s45 := s4.trans s5
      have s15 := s1.trans s25
      have q1 := s25 _ _ upd_same
      have q2 := s35 _ _ upd_same
      have q3 := s45 _ _ upd_same
      have q4 := s5 _ _ upd_same
      have n1 := (D3.nd np1).1
      have n2 := ((D3.keep s1).nd np2).1
      have n3 := ((D3.keep (s1.trans s2)).nd np3).1
      have n4 := ((D3.keep (s1.trans (s2.trans s3))).nd np4).1
      have n5 := ((D3.keep (s1.trans (s2.trans (s3.trans s4)))).nd np5).1
      have D5 := D3.keep s15
      refine ⟨d, l, _, _, rfl, D5, .inl ⟨p5, rfl, n5, SqL.of upd_same⟩, by simp, by simp, fun H4 v K4 D4 hv => ?_⟩
      obtain ⟨DR, ds, rfl, nDR, eD4, ds0, ds1, hds⟩ : ∃ (DR : Addr) (ds : List V), v = .ref DR ∧ DR ≠ d ∧ H4 DR = some (.lst ds) ∧ 0 < ds.length ∧ ds.length ≤ 1000 ∧ ∀ u ∈ ds, ∃ o : Option Nat, u = prV o := by
        have pr : ∀ a b c : Nat, ∀ u ∈ [V.non, V.int (a : Int), V.int (b : Int), V.int (c : Int)], ∃ o : Option Nat, u = prV o := by
          intro a b c u hu
          simp only [List.mem_cons, List.not_mem_nil, or_false] at hu
          rcases hu with rfl | rfl | rfl | rfl
          · exact ⟨none, rfl⟩
          · exact ⟨some a, rfl⟩
          · exact ⟨some b, rfl⟩
          · exact ⟨some c, rfl⟩
        simp only [List.mem_cons, List.not_mem_nil, or_false] at hv
        rcases hv with rfl | rfl | rfl | rfl
        · exact ⟨p1, _, rfl, n1, K4 _ _ n1 q1, by simp, by simp, pr 0 0 0⟩
        · exact ⟨p2, _, rfl, n2, K4 _ _ n2 q2, by simp, by simp, pr 0 1 4⟩
        · exact ⟨p3, _, rfl, n3, K4 _ _ n3 q3, by simp, by simp, pr 0 20 999⟩
        · exact ⟨p4, _, rfl, n4, K4 _ _ n4 q4, by simp, by simp, pr 2 30 100⟩
      have K34 : Kp d H3 H4 := (show Kp d H3 _ from fun b o _ e => s15 b o e).trans K4
      have eW4 := K34 _ _ ndW.1 eW3
      have eC4 := K34 _ _ ndC.1 eC3
      have eB4 := K34 _ _ ndB.1 eB3
      have K4 := K3.trans K34
      have hDC : DR ≠ C := fun z => by rw [z, eC4] at eD4; cases eD4
      have hDB : DR ≠ B := fun z => by rw [z, eB4] at eD4; cases eD4
      clear hv q1 q2 q3 q4 s1 s2 s3 s4 s5 s25 s35 s45 s15 n1 n2 n3 n4 n5 D5
      refine ⟨_, rfl, wl, rfl, ⟨_, SqL.of (keepW K4)⟩, ?_⟩
      refine for_it (walk_list (K := K) (a := wl) (xs := Z.map sV)) (fun i σ' H' => ∃ (x6 x7 x8 : Option V) (ck : List ((Nat × Nat) × Nat)) (bk : List ((Nat × Nat) × Option Nat)), σ' = [some (.ref d), some (.ref wl), some (.bl st), some (.ref W), x3, some (.ref C), some (.ref B), some (.ref DR), x6, x7, x8, none, none, none, none] ∧ Kp d H H' ∧ DI d l H' ∧ H' W = some (.dK (wkV wk)) ∧ H' C = some (.dT (ckV ck)) ∧ H' B = some (.dT (bkV bk)) ∧ H' DR = some (.lst ds) ∧ CkI wk (sumTo Z i) ck bk)
        ⟨none, none, none, [], [], rfl, K4, D4, eW4, eC4, eB4, eD4, Nat.zero_le _, .nil, rfl, (fun _ h => nomatch h), (fun _ h => nomatch h)⟩ ?_ ?_ ?_
      · rintro i σ' H' _ ⟨_, _, _, _, _, _, k, _⟩
        exact SqL.of (keepW k)
      · rintro i x σ' H5 H6 hi ⟨x6, x7, x8, ck, bk, rfl, K5, D5, eW5, eC5, eB5, eD5, hc⟩ ⟨rfl, hx⟩
        obtain ⟨zs, hzi, rfl⟩ := map_at2 hx
        have hzm : zs ∈ Z := List.mem_of_getElem? hzi
        have wd := hZ.wd zs hzm
        have hzs := hasW zs hzm
        have ss := sumTo_succ hzi
        have s60 : sumTo Z (i + 1) ≤ 60 := Nat.le_trans sumTo_le hZ.sm
        have hb : (mkS zs).length ≤ sizeLine := by rw [mkS_len]; exact big_ok (by have := wd.len; omega)
        have hl := wd.len
        have h1l := hZ.ne zs hzm
        refine ⟨_, rfl, mkS zs, rfl, hb, 1, _, rfl, ⟨by decide, by decide, by rw [mkS_len]; omega, by rw [mkS_len]; omega⟩, ?_⟩
        have en : (((mkS zs).length : Int) - 1).toNat = zs.length - 1 := by rw [mkS_len]; omega
        rw [en]
        refine for_it walk_range (fun m σ' H' => ∃ (x7 x8 : Option V) (ck : List ((Nat × Nat) × Nat)) (bk : List ((Nat × Nat) × Option Nat)), σ' = [some (.ref d), some (.ref wl), some (.bl st), some (.ref W), x3, some (.ref C), some (.ref B), some (.ref DR), some (sV zs), x7, x8, none, none, none, none] ∧ Kp d H H' ∧ DI d l H' ∧ H' W = some (.dK (wkV wk)) ∧ H' C = some (.dT (ckV ck)) ∧ H' B = some (.dT (bkV bk)) ∧ H' DR = some (.lst ds) ∧ CkI wk (sumTo Z i + m) ck bk)
          ⟨x7, x8, ck, bk, rfl, K5, D5, eW5, eC5, eB5, eD5, hc⟩ (fun _ _ _ _ _ => trivial) ?_ ?_
        · rintro m x σ' H5 H6 hm ⟨x7, x8, ck, bk, rfl, K5, D5, eW5, eC5, eB5, eD5, hc⟩ ⟨rfl, hx⟩
          have hx : x = .int ((m + 1 : Nat) : Int) := by
            rw [hx]
            show V.int (1 + (m : Int)) = _
            rw [show 1 + (m : Int) = ((m + 1 : Nat) : Int) by omega]
          subst hx
          have ea : ((m + 1 : Nat) : Int) - 1 = (m : Int) := by omega
          have g1 := wd.at (show m < zs.length by omega)
          have g2 := wd.at (show m + 1 < zs.length by omega)
          refine ⟨_, rfl, _, rfl, _, _, rfl, rfl, mkS zs, _, _, rfl, rfl, hb, by rw [ea]; exact atI_nat g1.1, ?_⟩
          refine ⟨_, rfl, _, rfl, mkS zs, _, _, rfl, rfl, hb, atI_nat g2.1, Nat.le_of_lt (lt_s (by show _ < 100000; simp)), fun p np => ?_⟩
          obtain ⟨k, hk⟩ : ∃ k : Nat × Nat, k = (zs.getD m 0, zs.getD (m + 1) 0) := ⟨_, rfl⟩
          have kp := same_upd (o := .tup [sgn (zs.getD m 0), sgn (zs.getD (m + 1) 0)]) (Same.refl H6) np
          generalize hH7 : upd H6 p (.tup [V.str ⟨#[zs.getD m 0]⟩, V.str ⟨#[zs.getD (m + 1) 0]⟩]) = H7
          have kp : Same H6 H7 := by rw [← hH7]; exact kp
          have ep : H7 p = some (.tup ((kk2 k).map kV)) := by rw [← hH7, upd_same, hk]; rfl
          have K7 : Kp d H H7 := by rw [← hH7]; exact K5.new np
          have D7 : DI d l H7 := by rw [← hH7]; exact D5.new np
          have g : DGet H7 C (.ref p) ((look ck k).map natV) := by rw [← ckV_get]; exact DGet.t (kp _ _ eC5) ep
          refine ⟨_, rfl, _, rfl, C, _, rfl, g, ?_⟩
          have pd : p ≠ d := (D5.nd np).1
          have pC : p ≠ C := fun z => by rw [z, eC5] at np; cases np
          have pB : p ≠ B := fun z => by rw [z, eB5] at np; cases np
          cases e : look ck k with
          | some x =>
            exact ⟨false, rfl, some (.int ((m + 1 : Nat) : Int)), some (.ref p), ck, bk, rfl, K7, D7, kp _ _ eW5, kp _ _ eC5, kp _ _ eB5, kp _ _ eD5, hc.up (by omega)⟩
          | none =>
            obtain ⟨x, hx, x1, x3b⟩ := hzs (zs.getD m 0) (mem_of_at' g1.1)
            have gw : DGet H7 W (sgn (zs.getD m 0)) (some (natV x)) := by
              have := DGet.k (k := Sum.inr (sg1 (zs.getD m 0))) (kp _ _ eW5)
              rw [wkV_get, hx] at this
              exact this
            refine ⟨true, rfl, ?_⟩
            refine ⟨_, rfl, st, rfl, ?_⟩
            refine ite2 (fun cs => ?_) (fun cs => ?_)
            · refine ⟨_, rfl, _, rfl, _, rfl, _, _, rfl, rfl, mkS zs, _, _, rfl, rfl, hb, by rw [ea]; exact atI_nat g1.1, W, natV x, rfl, gw, _, _, rfl, rfl, ?_⟩
              obtain ⟨j, hj0, hj⟩ : ∃ j : Nat, (x : Int) - 1 = (j : Int) ∧ j < x := ⟨x - 1, by omega, by omega⟩
              obtain ⟨H8, hH8⟩ : ∃ H8, H8 = H7 := ⟨_, rfl⟩
              have K8 : Kp d H7 H8 := by rw [hH8]; exact Kp.refl d H7
              have D8 : DI d l H8 := by rw [hH8]; exact D7
              rw [← hH8]
              have dp : ∀ Hn, DPut H8 C (.ref p) (V.int (j : Int)) Hn → DPut H8 C (.ref p) (V.int ((x : Int) - 1)) Hn := fun Hn h => by rw [hj0]; exact h
              have hjw : j < wOf wk k.1 := by
                rw [hk]; unfold wOf
                show j < (look wk (zs.getD m 0)).getD 1
                rw [hx]; exact hj
              have eC8 := K8 _ _ ndC.1 (kp _ _ eC5)
              have eB8 := K8 _ _ ndB.1 (kp _ _ eB5)
              have eW8 := K8 _ _ ndW.1 (kp _ _ eW5)
              have ep8 := K8 _ _ pd ep
              have eD8 := K8 _ _ nDR (kp _ _ eD5)
              have KK := K7.trans K8
              refine ⟨_, rfl, _, rfl, C, _, rfl, dp _ (DPut.t eC8 ep8 ?_), ?_⟩
              · unfold ckV
                rw [List.length_map]; have := hc.len; exact lt_s (by omega)
              have ec : putK (ckV ck) (kk2 k) (natV j) = ckV (ck ++ [(k, j)]) := ckV_put e
              have K9 := KK.mut (o := .dT (putK (ckV ck) (kk2 k) (V.int (j : Int)))) nC0
              have D9 := D8.at (o := .dT (putK (ckV ck) (kk2 k) (V.int (j : Int)))) ndC.1 ndC.2
              generalize hH9 : upd H8 C (.dT (putK (ckV ck) (kk2 k) (V.int (j : Int)))) = H9 at K9 D9
              have eC9 : H9 C = some (.dT (ckV (ck ++ [(k, j)]))) := by rw [← hH9, upd_same, ← ec]; rfl
              have eB9 : H9 B = some (.dT (bkV bk)) := by rw [← hH9, upd_ne hBC]; exact eB8
              have eW9 : H9 W = some (.dK (wkV wk)) := by rw [← hH9, upd_ne hCW.symm]; exact eW8
              have eD9 : H9 DR = some (.lst ds) := by rw [← hH9, upd_ne hDC]; exact eD8
              have ep9 : H9 p = some (.tup ((kk2 k).map kV)) := by rw [← hH9, upd_ne pC]; exact ep8
              have eb := hc.bnone e
              have hci : ∀ o, CkI wk (sumTo Z i + (m + 1)) (ck ++ [(k, j)]) (bk ++ [(k, o)]) := fun o => hc.new e hjw (by rw [hk]; exact ⟨g1.2, g2.2⟩) o
              refine ⟨_, rfl, _, rfl, B, _, rfl, DPut.t (v := .non) eB9 ep9 ?_, ?_⟩
              · unfold bkV
                rw [List.length_map]; have := hc.len; have e9 := congrArg List.length hc.cb; rw [List.length_map, List.length_map] at e9; exact lt_s (by omega)
              have ebp : putK (bkV bk) (kk2 k) .non = bkV (bk ++ [(k, none)]) := bkV_put (x := none) eb
              have K10 := K9.mut (o := .dT (putK (bkV bk) (kk2 k) .non)) nB0
              have D10 := D9.at (o := .dT (putK (bkV bk) (kk2 k) .non)) ndB.1 ndB.2
              generalize hH10 : upd H9 B (.dT (putK (bkV bk) (kk2 k) .non)) = H10 at K10 D10
              have eB10 : H10 B = some (.dT (bkV (bk ++ [(k, none)]))) := by rw [← hH10, upd_same, ← ebp]
              have eC10 : H10 C = some (.dT (ckV (ck ++ [(k, j)]))) := by rw [← hH10, upd_ne hBC.symm]; exact eC9
              have eW10 : H10 W = some (.dK (wkV wk)) := by rw [← hH10, upd_ne hBW.symm]; exact eW9
              have eD10 : H10 DR = some (.lst ds) := by rw [← hH10, upd_ne hDB]; exact eD9
              have ep10 : H10 p = some (.tup ((kk2 k).map kV)) := by rw [← hH10, upd_ne pB]; exact ep9
              refine ⟨_, rfl, _, rfl, _, _, rfl, rfl, _, rfl, _, rfl, _, _, rfl, rfl, _, rfl, mkS zs, rfl, hb, rfl, _, rfl, rfl, trivial, _, rfl, ?_⟩
              refine ite2 (fun c1 => ?_) (fun c1 => ?_)
              · refine ⟨_, rfl, _, rfl, _, _, rfl, rfl, _, rfl, _, rfl, _, _, rfl, rfl, _, rfl, mkS zs, rfl, hb, rfl, _, rfl, rfl, trivial, _, rfl, ite2 (fun c2 => ?_) (fun c2 => ?_)⟩
                · refine ⟨_, rfl, _, rfl, d, l, _, ds, rfl, D10, .inl ⟨DR, rfl, nDR, SqL.of eD10⟩, ds0, ds1, fun H12 v K12 D12 hv => ?_⟩
                  obtain ⟨o, rfl⟩ := hds v hv
                  have KX := K12
                  have eB12 := KX _ _ ndB.1 eB10
                  have eC12 := KX _ _ ndC.1 eC10
                  have eW12 := KX _ _ ndW.1 eW10
                  have ep12 := KX _ _ pd ep10
                  refine ⟨_, rfl, _, rfl, B, _, rfl, DPut.t eB12 ep12 ?_, ?_⟩
                  · have := (hci none).len
                    have e9 := congrArg List.length (hci none).cb
                    unfold bkV
                    rw [List.length_map, List.length_map] at e9
                    rw [List.length_map]; exact lt_s (by omega)
                  refine ⟨some (.int ((m + 1 : Nat) : Int)), some (.ref p), _, bk ++ [(k, o)], rfl, (K10.trans KX).mut nB0, D12.at ndB.1 ndB.2, by rw [upd_ne hBW.symm]; exact eW12, by rw [upd_ne hBC.symm]; exact eC12, by rw [upd_same, bkV_again eb], by rw [upd_ne hDB]; exact K12 _ _ nDR eD10, hci o⟩
                · exact ⟨some (.int ((m + 1 : Nat) : Int)), some (.ref p), _, _, rfl, K10, D10, eW10, eC10, eB10, eD10, hci none⟩
              · exact ⟨some (.int ((m + 1 : Nat) : Int)), some (.ref p), _, _, rfl, K10, D10, eW10, eC10, eB10, eD10, hci none⟩
            · refine ⟨_, rfl, _, rfl, _, rfl, _, rfl, _, _, rfl, rfl, mkS zs, _, _, rfl, rfl, hb, by rw [ea]; exact atI_nat g1.1, W, natV x, rfl, gw, ?_⟩
              refine ⟨d, l, _, rfl, D7, by show (x : Int) ≤ _; omega, fun H8 r K8 D8 r1 r2 => ?_⟩
              obtain ⟨j, rfl, hj⟩ := natOf x1 r1 r2
              have dp : ∀ Hn, DPut H8 C (.ref p) (V.int (j : Int)) Hn → DPut H8 C (.ref p) (V.int (j : Int)) Hn := fun _ h => h
              have hjw : j < wOf wk k.1 := by
                rw [hk]; unfold wOf
                show j < (look wk (zs.getD m 0)).getD 1
                rw [hx]; exact hj
              have eC8 := K8 _ _ ndC.1 (kp _ _ eC5)
              have eB8 := K8 _ _ ndB.1 (kp _ _ eB5)
              have eW8 := K8 _ _ ndW.1 (kp _ _ eW5)
              have ep8 := K8 _ _ pd ep
              have eD8 := K8 _ _ nDR (kp _ _ eD5)
              have KK := K7.trans K8
              refine ⟨_, rfl, _, rfl, C, _, rfl, dp _ (DPut.t eC8 ep8 ?_), ?_⟩
              · unfold ckV
                rw [List.length_map]; have := hc.len; exact lt_s (by omega)
              have ec : putK (ckV ck) (kk2 k) (natV j) = ckV (ck ++ [(k, j)]) := ckV_put e
              have K9 := KK.mut (o := .dT (putK (ckV ck) (kk2 k) (V.int (j : Int)))) nC0
              have D9 := D8.at (o := .dT (putK (ckV ck) (kk2 k) (V.int (j : Int)))) ndC.1 ndC.2
              generalize hH9 : upd H8 C (.dT (putK (ckV ck) (kk2 k) (V.int (j : Int)))) = H9 at K9 D9
              have eC9 : H9 C = some (.dT (ckV (ck ++ [(k, j)]))) := by rw [← hH9, upd_same, ← ec]; rfl
              have eB9 : H9 B = some (.dT (bkV bk)) := by rw [← hH9, upd_ne hBC]; exact eB8
              have eW9 : H9 W = some (.dK (wkV wk)) := by rw [← hH9, upd_ne hCW.symm]; exact eW8
              have eD9 : H9 DR = some (.lst ds) := by rw [← hH9, upd_ne hDC]; exact eD8
              have ep9 : H9 p = some (.tup ((kk2 k).map kV)) := by rw [← hH9, upd_ne pC]; exact ep8
              have eb := hc.bnone e
              have hci : ∀ o, CkI wk (sumTo Z i + (m + 1)) (ck ++ [(k, j)]) (bk ++ [(k, o)]) := fun o => hc.new e hjw (by rw [hk]; exact ⟨g1.2, g2.2⟩) o
              refine ⟨_, rfl, _, rfl, B, _, rfl, DPut.t (v := .non) eB9 ep9 ?_, ?_⟩
              · unfold bkV
                rw [List.length_map]; have := hc.len; have e9 := congrArg List.length hc.cb; rw [List.length_map, List.length_map] at e9; exact lt_s (by omega)
              have ebp : putK (bkV bk) (kk2 k) .non = bkV (bk ++ [(k, none)]) := bkV_put (x := none) eb
              have K10 := K9.mut (o := .dT (putK (bkV bk) (kk2 k) .non)) nB0
              have D10 := D9.at (o := .dT (putK (bkV bk) (kk2 k) .non)) ndB.1 ndB.2
              generalize hH10 : upd H9 B (.dT (putK (bkV bk) (kk2 k) .non)) = H10 at K10 D10
              have eB10 : H10 B = some (.dT (bkV (bk ++ [(k, none)]))) := by rw [← hH10, upd_same, ← ebp]
              have eC10 : H10 C = some (.dT (ckV (ck ++ [(k, j)]))) := by rw [← hH10, upd_ne hBC.symm]; exact eC9
              have eW10 : H10 W = some (.dK (wkV wk)) := by rw [← hH10, upd_ne hBW.symm]; exact eW9
              have eD10 : H10 DR = some (.lst ds) := by rw [← hH10, upd_ne hDB]; exact eD9
              have ep10 : H10 p = some (.tup ((kk2 k).map kV)) := by rw [← hH10, upd_ne pB]; exact ep9
              refine ⟨_, rfl, _, rfl, _, _, rfl, rfl, _, rfl, _, rfl, _, _, rfl, rfl, _, rfl, mkS zs, rfl, hb, rfl, _, rfl, rfl, trivial, _, rfl, ?_⟩
              refine ite2 (fun c1 => ?_) (fun c1 => ?_)
              · refine ⟨_, rfl, _, rfl, _, _, rfl, rfl, _, rfl, _, rfl, _, _, rfl, rfl, _, rfl, mkS zs, rfl, hb, rfl, _, rfl, rfl, trivial, _, rfl, ite2 (fun c2 => ?_) (fun c2 => ?_)⟩
                · refine ⟨_, rfl, _, rfl, d, l, _, ds, rfl, D10, .inl ⟨DR, rfl, nDR, SqL.of eD10⟩, ds0, ds1, fun H12 v K12 D12 hv => ?_⟩
                  obtain ⟨o, rfl⟩ := hds v hv
                  have KX := K12
                  have eB12 := KX _ _ ndB.1 eB10
                  have eC12 := KX _ _ ndC.1 eC10
                  have eW12 := KX _ _ ndW.1 eW10
                  have ep12 := KX _ _ pd ep10
                  refine ⟨_, rfl, _, rfl, B, _, rfl, DPut.t eB12 ep12 ?_, ?_⟩
                  · have := (hci none).len
                    have e9 := congrArg List.length (hci none).cb
                    unfold bkV
                    rw [List.length_map, List.length_map] at e9
                    rw [List.length_map]; exact lt_s (by omega)
                  refine ⟨some (.int ((m + 1 : Nat) : Int)), some (.ref p), _, bk ++ [(k, o)], rfl, (K10.trans KX).mut nB0, D12.at ndB.1 ndB.2, by rw [upd_ne hBW.symm]; exact eW12, by rw [upd_ne hBC.symm]; exact eC12, by rw [upd_same, bkV_again eb], by rw [upd_ne hDB]; exact K12 _ _ nDR eD10, hci o⟩
                · exact ⟨some (.int ((m + 1 : Nat) : Int)), some (.ref p), _, _, rfl, K10, D10, eW10, eC10, eB10, eD10, hci none⟩
              · exact ⟨some (.int ((m + 1 : Nat) : Int)), some (.ref p), _, _, rfl, K10, D10, eW10, eC10, eB10, eD10, hci none⟩
        · rintro σ' H5 ⟨x7, x8, ck, bk, rfl, K5, D5, eW5, eC5, eB5, eD5, hc⟩
          exact ⟨_, x7, x8, ck, bk, rfl, K5, D5, eW5, eC5, eB5, eD5, hc.up (by omega)⟩
      · rintro σ' H4 ⟨x6, x7, x8, ck, bk, rfl, K4, D4, eW4, eC4, eB4, eD4, hc⟩
        have hc : CkI wk 60 ck bk := CkI.up hc (by rw [List.length_map]; exact Nat.le_trans sumTo_le hZ.sm)
        obtain ⟨lc, nc, cb, cwk, uck⟩ := hc
        have dk : Dicts wk ck bk := ⟨hw.nd, hw.w3, fun r hr => tu _ (hw.from_ r hr), by omega, nc, cb, by omega, cwk, uck⟩
        have lb : bk.length ≤ 60 := by
          have e9 := congrArg List.length cb
          rw [List.length_map, List.length_map] at e9
          omega
        -- widths
        refine ⟨_, rfl, W, wkV wk, (wk.map (·.1)).map sg1, rfl, .inl eW4, ?_, ?_, fun ys0 sp hperm hsort nsp => ?_⟩
        · unfold wkV
          rw [List.map_map, List.map_map, List.map_map]; rfl
        · rw [List.length_map, List.length_map]; omega
        obtain ⟨ys, hys, rfl⟩ := perm_lift hperm
        have sy := sorted_sg hsort
        have ly : ys.length ≤ 60 := by
          have e := hys.length_eq
          rw [List.length_map] at e
          omega
        have evy : (ys.map sg1).map V.str = ys.map sgn := by rw [List.map_map]; rfl
        have K5 := K4.new (o := .lst ((ys.map sg1).map V.str)) nsp
        have D5 := D4.new (o := .lst ((ys.map sg1).map V.str)) nsp
        have hspW : sp ≠ W := fun z => by rw [z, eW4] at nsp; cases nsp
        have hspC : sp ≠ C := fun z => by rw [z, eC4] at nsp; cases nsp
        have hspB : sp ≠ B := fun z => by rw [z, eB4] at nsp; cases nsp
        have eS5 : upd H4 sp (.lst ((ys.map sg1).map V.str)) sp = some (.lst (ys.map sgn)) := by rw [upd_same, evy]
        have s45 := same_upd (o := .lst ((ys.map sg1).map V.str)) (Same.refl H4) nsp
        have eW5 := s45 _ _ eW4
        have eC5 := s45 _ _ eC4
        have eB5 := s45 _ _ eB4
        generalize hH5 : upd H4 sp (.lst ((ys.map sg1).map V.str)) = H5 at K5 D5 eS5 eW5 eC5 eB5
        refine ⟨sp, rfl, ⟨_, SqL.of eS5⟩, fun F nF => ?_⟩
        refine lc_it (walk_list (K := K) (a := sp) (xs := ys.map sgn)) (fun n H' => Same H5 H' ∧ ∃ vs, H' F = some (.lst vs) ∧ RowsL H' vs (rowsW (rowsOf (fW wk) (ys.take n)))) ⟨same_upd (Same.refl H5) nF, [], upd_same, rfl, fun i r h => by simp [rowsOf, rowsW] at h⟩ ?_ ?_ ?_
        · rintro i H' _ ⟨k, _⟩
          exact SqL.of (k _ _ eS5)
        · rintro n x H6 H7 hn ⟨k6, vs, eF, rl⟩ ⟨rfl, hx⟩
          obtain ⟨c, hcn, rfl⟩ := map_at2 hx
          obtain ⟨x, hxk⟩ := look_key (hys.mem_iff.mp (List.mem_of_getElem? hcn))
          have wx : wOf wk c = x := by unfold wOf; rw [hxk]; rfl
          have lvs : vs.length ≤ 60 := by
            rw [rl.1]
            unfold rowsW
            rw [List.length_map]
            have := rowsOf_len (fW wk) (ys.take n)
            rw [List.length_take] at this
            omega
          have g : DGet H7 W (sgn c) (some (natV x)) := by
            have := DGet.k (k := Sum.inr (sg1 c)) (k6 _ _ eW5)
            rw [wkV_get, hxk] at this
            exact this
          refine ⟨rfl, _, rfl, _, rfl, W, _, rfl, g, _, _, rfl, rfl, decide (1 < x), congrArg V.bl (decide_eq_decide.mpr ⟨fun h => by omega, fun h => by omega⟩), ite2 (fun c9 => ?_) (fun c9 => ?_)⟩
          · have c9 := of_decide_eq_true c9
            refine ⟨_, rfl, _, rfl, _, rfl, W, _, rfl, g, Nat.le_of_lt (lt_s (by show _ < 100000; simp)), fun b nb => ?_⟩
            have kb := same_upd (o := .tup [sgn c, natV x]) (Same.refl H7) nb
            refine ⟨vs, kb _ _ eF, lt_s (by omega), same_mut (k6.trans kb) nF, _, upd_same, ?_⟩
            rw [rowsOf_succ hcn, show fW wk c = some x by unfold fW; rw [wx, if_pos c9]]
            unfold rowsW
            rw [List.map_append]
            exact ((rl.same (same_tup kb)).snoc (r := ([c], natV x)) upd_same).same (keepT (kb _ _ eF))
          · refine ⟨k6, vs, eF, ?_⟩
            rw [rowsOf_succ hcn, show fW wk c = none by unfold fW; rw [wx, if_neg fun z => c9 (decide_eq_true z)]]
            show RowsL H7 vs (rowsW (rowsOf (fW wk) (ys.take n) ++ []))
            rw [List.append_nil]
            exact rl
        rintro H6 ⟨k6, vsW, eF6, rlW⟩
        rw [List.length_map, List.take_length] at rlW
        have K6 : Kp d H H6 := K5.trans fun b o _ e => k6 b o e
        have D6 : DI d l H6 := D5.keep k6
        have eC6 := k6 _ _ eC5
        have eB6 := k6 _ _ eB5
        -- cuts
        refine ⟨_, rfl, C, ckV ck, ck.map (·.1), rfl, .inl eC6, ?_, ?_, ?_, fun wsC sC hpermC hpwC hallC nsC => ?_⟩
        · unfold ckV
          rw [List.map_map, List.map_map]; rfl
        · rw [List.length_map]; omega
        · intro k hk
          obtain ⟨r, hr, rfl⟩ := List.mem_map.mp hk
          have := uck r hr
          omega
        have lsC : wsC.length ≤ 60 := by
          have e := hpermC.length_eq
          rw [List.length_map, List.length_map] at e
          omega
        have K6a := K6.new (o := .lst (wsC.map fun y => V.ref y.1)) nsC
        have D6a := D6.new (o := .lst (wsC.map fun y => V.ref y.1)) nsC
        have saC := same_upd (o := .lst (wsC.map fun y => V.ref y.1)) (Same.refl H6) nsC
        have eSC : upd H6 sC (.lst (wsC.map fun y => V.ref y.1)) sC = some (.lst (wsC.map fun y => V.ref y.1)) := upd_same
        generalize hHaC : upd H6 sC (.lst (wsC.map fun y => V.ref y.1)) = HaC at K6a D6a saC eSC
        refine ⟨sC, rfl, ⟨_, SqL.of eSC⟩, fun FC nFC => ?_⟩
        refine lc_it (walk_list (K := K) (a := sC) (xs := wsC.map fun y => V.ref y.1)) (fun n H' => Same HaC H' ∧ ∃ vs, H' FC = some (.lst vs) ∧ RowsL H' vs (rows2 (rowsOf (fC ck) ((wsC.map (·.2)).take n)))) ⟨same_upd (Same.refl HaC) nFC, [], upd_same, rfl, fun i r h => by simp [rowsOf, rows2] at h⟩ ?_ ?_ ?_
        · rintro i H' _ ⟨k, _⟩
          exact SqL.of (k _ _ eSC)
        · rintro n x H7 H8 hn ⟨k7, vs, eF, rl⟩ ⟨rfl, hx⟩
          obtain ⟨y, hyn, rfl⟩ := map_at2 hx
          have hcn : (wsC.map (·.2))[n]? = some y.2 := by rw [List.getElem?_map, hyn]; rfl
          obtain ⟨x, hxk⟩ := look_key (hpermC.mem_iff.mp (List.mem_of_getElem? hcn))
          have lvs : vs.length ≤ 60 := by
            rw [rl.1]
            unfold rows2
            rw [List.length_map]
            have := rowsOf_len (fC ck) ((wsC.map (·.2)).take n)
            rw [List.length_take, List.length_map] at this
            omega
          have ey : H8 y.1 = some (.tup ((kk2 y.2).map kV)) := k7 _ _ (saC _ _ (hallC y (List.mem_of_getElem? hyn)))
          have g : DGet H8 C (.ref y.1) (some (natV x)) := by
            have := DGet.t (k := kk2 y.2) (k7 _ _ (saC _ _ eC6)) ey
            rw [ckV_get, hxk] at this
            exact this
          have wx : cutOf ck y.2.1 y.2.2 = x := by
            unfold cutOf
            show (look ck y.2).getD 0 = x
            rw [hxk]; rfl
          refine ⟨rfl, _, rfl, _, rfl, C, _, rfl, g, _, _, rfl, rfl, decide (0 < x), congrArg V.bl (decide_eq_decide.mpr ⟨fun h => by omega, fun h => by omega⟩), ite2 (fun c9 => ?_) (fun c9 => ?_)⟩
          · have c9 := of_decide_eq_true c9
            refine ⟨_, rfl, _, rfl, _, rfl, C, _, rfl, g, Nat.le_of_lt (lt_s (by show _ < 100000; simp)), fun q8 nq8 => ?_⟩
            have kq8 := same_upd (o := .tup [natV x]) (Same.refl H8) nq8
            refine ⟨y.1, q8, _, _, rfl, rfl, SqT.of (kq8 _ _ ey), SqT.of upd_same, Nat.le_of_lt (lt_s (by show _ < 100000; simp [kk2])), (fun h => by cases h), (fun _ h => by cases h), fun _ _ b nb => ?_⟩
            have kb := same_upd (o := .tup ((kk2 y.2).map kV ++ [natV x])) (Same.refl _) nb
            have kk := kq8.trans kb
            refine ⟨vs, kk _ _ eF, lt_s (by omega), same_mut (k7.trans kk) nFC, _, upd_same, ?_⟩
            rw [rowsOf_succ hcn, show fC ck y.2 = some x by unfold fC; rw [wx, if_pos c9]]
            unfold rows2
            rw [List.map_append]
            exact ((rl.same (same_tup kk)).snoc (r := ([y.2.1, y.2.2], natV x)) upd_same).same (keepT (kk _ _ eF))
          · refine ⟨k7, vs, eF, ?_⟩
            rw [rowsOf_succ hcn, show fC ck y.2 = none by unfold fC; rw [wx, if_neg fun z => c9 (decide_eq_true z)]]
            show RowsL H8 vs (rows2 (rowsOf (fC ck) ((wsC.map (·.2)).take n) ++ []))
            rw [List.append_nil]
            exact rl
        rintro H9 ⟨k9, vsC, eFC9, rlC⟩
        rw [List.length_map, show wsC.length = (wsC.map (·.2)).length by rw [List.length_map], List.take_length] at rlC
        have K9 : Kp d H H9 := K6a.trans fun b o _ e => k9 b o e
        have D9 : DI d l H9 := D6a.keep k9
        have t69 : Same H6 H9 := saC.trans k9
        have eB9 := t69 _ _ eB6
        have eF9 := t69 _ _ eF6
        -- breaks
        refine ⟨_, rfl, B, bkV bk, bk.map (·.1), rfl, .inl eB9, ?_, ?_, ?_, fun wsB sB hpermB hpwB hallB nsB => ?_⟩
        · unfold bkV
          rw [List.map_map, List.map_map]; rfl
        · rw [List.length_map]; omega
        · intro k hk
          rw [← cb] at hk
          obtain ⟨r, hr, rfl⟩ := List.mem_map.mp hk
          have := uck r hr
          omega
        have lsB : wsB.length ≤ 60 := by
          have e := hpermB.length_eq
          rw [List.length_map, List.length_map] at e
          omega
        have K9a := K9.new (o := .lst (wsB.map fun y => V.ref y.1)) nsB
        have D9a := D9.new (o := .lst (wsB.map fun y => V.ref y.1)) nsB
        have saB := same_upd (o := .lst (wsB.map fun y => V.ref y.1)) (Same.refl H9) nsB
        have eSB : upd H9 sB (.lst (wsB.map fun y => V.ref y.1)) sB = some (.lst (wsB.map fun y => V.ref y.1)) := upd_same
        generalize hHaB : upd H9 sB (.lst (wsB.map fun y => V.ref y.1)) = HaB at K9a D9a saB eSB
        refine ⟨sB, rfl, ⟨_, SqL.of eSB⟩, fun FB nFB => ?_⟩
        refine lc_it (walk_list (K := K) (a := sB) (xs := wsB.map fun y => V.ref y.1)) (fun n H' => Same HaB H' ∧ ∃ vs, H' FB = some (.lst vs) ∧ RowsL H' vs (rows2 (rowsOf (fB bk) ((wsB.map (·.2)).take n)))) ⟨same_upd (Same.refl HaB) nFB, [], upd_same, rfl, fun i r h => by simp [rowsOf, rows2] at h⟩ ?_ ?_ ?_
        · rintro i H' _ ⟨k, _⟩
          exact SqL.of (k _ _ eSB)
        · rintro n x H7 H8 hn ⟨k7, vs, eF, rl⟩ ⟨rfl, hx⟩
          obtain ⟨y, hyn, rfl⟩ := map_at2 hx
          have hcn : (wsB.map (·.2))[n]? = some y.2 := by rw [List.getElem?_map, hyn]; rfl
          obtain ⟨x, hxk⟩ := look_key (hpermB.mem_iff.mp (List.mem_of_getElem? hcn))
          have lvs : vs.length ≤ 60 := by
            rw [rl.1]
            unfold rows2
            rw [List.length_map]
            have := rowsOf_len (fB bk) ((wsB.map (·.2)).take n)
            rw [List.length_take, List.length_map] at this
            omega
          have ey : H8 y.1 = some (.tup ((kk2 y.2).map kV)) := k7 _ _ (saB _ _ (hallB y (List.mem_of_getElem? hyn)))
          have g : DGet H8 B (.ref y.1) (some (prV x)) := by
            have := DGet.t (k := kk2 y.2) (k7 _ _ (saB _ _ eB9)) ey
            rw [bkV_get, hxk] at this
            exact this
          have wx : fB bk y.2 = x := by
            unfold fB
            rw [hxk]; rfl
          cases x with
          | some p =>
            refine ⟨rfl, _, rfl, _, rfl, B, _, rfl, g, rfl, true, rfl, ?_⟩
            refine ⟨_, rfl, _, rfl, _, rfl, B, _, rfl, g, Nat.le_of_lt (lt_s (by show _ < 100000; simp)), fun q8 nq8 => ?_⟩
            have kq8 := same_upd (o := .tup [natV p]) (Same.refl H8) nq8
            refine ⟨y.1, q8, _, _, rfl, rfl, SqT.of (kq8 _ _ ey), SqT.of upd_same, Nat.le_of_lt (lt_s (by show _ < 100000; simp [kk2])), (fun h => by cases h), (fun _ h => by cases h), fun _ _ b nb => ?_⟩
            have kb := same_upd (o := .tup ((kk2 y.2).map kV ++ [natV p])) (Same.refl _) nb
            have kk := kq8.trans kb
            refine ⟨vs, kk _ _ eF, lt_s (by omega), same_mut (k7.trans kk) nFB, _, upd_same, ?_⟩
            rw [rowsOf_succ hcn, wx]
            unfold rows2
            rw [List.map_append]
            exact ((rl.same (same_tup kk)).snoc (r := ([y.2.1, y.2.2], natV p)) upd_same).same (keepT (kk _ _ eF))
          | none =>
            refine ⟨rfl, _, rfl, _, rfl, B, _, rfl, g, rfl, false, rfl, ?_⟩
            refine ⟨k7, vs, eF, ?_⟩
            rw [rowsOf_succ hcn, wx]
            show RowsL H8 vs (rows2 (rowsOf (fB bk) ((wsB.map (·.2)).take n) ++ []))
            rw [List.append_nil]
            exact rl
        rintro H10 ⟨k10, vsB, eFB10, rlB⟩
        rw [List.length_map, show wsB.length = (wsB.map (·.2)).length by rw [List.length_map], List.take_length] at rlB
        have K10 : Kp d H H10 := K9a.trans fun b o _ e => k10 b o e
        have D10 : DI d l H10 := D9a.keep k10
        have t910 : Same H9 H10 := saB.trans k10
        have eF10 := t910 _ _ eF9
        have eFC10 := t910 _ _ eFC9
        have rlW10 := rlW.same (same_tup (t69.trans t910))
        have rlC10 := rlC.same (same_tup t910)
        have nFd := (D5.nd nF).1
        have nFCd := (D6a.nd nFC).1
        have nFBd := (D9a.nd nFB).1
        refine ⟨5, rfl, by decide, by decide, fun G nG => ?_⟩
        have ndG := D10.nd nG
        refine lc_range (lo := 0) (n := 5) (fun i H' => ∃ ps : List Nat, ps.length = i ∧ (∀ x ∈ ps, x ≤ 999) ∧ Kp d H10 H' ∧ DI d l H' ∧ H' G = some (.lst (ps.map natV))) ⟨[], rfl, (fun _ h => nomatch h), (Kp.refl d H10).new nG, D10.new nG, upd_same⟩ ?_ ?_
        · rintro i H11 hi ⟨ps, hl, hp, K11, D11, eG⟩
          refine ⟨rfl, _, rfl, sz4 _ (by simp), fun p np => ?_⟩
          have eG' := (same_upd (o := .lst [V.int 0, V.int 1, V.int 6, V.int 50, V.int 999]) (Same.refl H11) np) _ _ eG
          refine ⟨d, l, _, _, rfl, D11.new np, .inl ⟨p, rfl, (D11.nd np).1, SqL.of upd_same⟩, by simp, by simp, fun H12 v K12 D12 hv => ?_⟩
          obtain ⟨x, rfl, hx⟩ : ∃ x : Nat, v = natV x ∧ x ≤ 999 := by
            simp only [List.mem_cons, List.not_mem_nil, or_false] at hv
            rcases hv with rfl | rfl | rfl | rfl | rfl
            · exact ⟨0, rfl, by decide⟩
            · exact ⟨1, rfl, by decide⟩
            · exact ⟨6, rfl, by decide⟩
            · exact ⟨50, rfl, by decide⟩
            · exact ⟨999, rfl, by decide⟩
          refine ⟨_, K12 _ _ ndG.1 eG', lt_s (by rw [List.length_map]; omega), ps ++ [x], by rw [List.length_append, hl]; rfl, fun y hy => ?_, ((K11.new np).trans K12).mut nG, D12.at ndG.1 ndG.2, by rw [upd_same, List.map_append]; rfl⟩
          rcases List.mem_append.mp hy with z | z
          · exact hp y z
          · rw [List.mem_singleton.mp z]; exact hx
        rintro H11 ⟨ps, hpl, hp, K11, D11, eG⟩
        refine ⟨G, _, rfl, .inl ⟨SqL.of eG, fun PT nPT => ?_⟩⟩
        have ndP := D11.nd nPT
        have K12 : Kp d H10 (upd H11 PT (.tup (ps.map natV))) := K11.new nPT
        have D12 := D11.new (o := .tup (ps.map natV)) nPT
        have eP12 : upd H11 PT (.tup (ps.map natV)) PT = some (.tup (ps.map natV)) := upd_same
        generalize upd H11 PT (.tup (ps.map natV)) = H12 at K12 D12 eP12
        refine ⟨_, rfl, d, l, _, rfl, D12, by decide, fun Hx rx Kx Dx _ _ => ?_⟩
        refine ⟨_, _, rfl, rfl, _, rfl, d, l, _, rfl, Dx, by decide, fun Hy ry Ky Dy _ _ => ?_⟩
        refine ⟨_, _, rfl, rfl, _, rfl, d, l, _, rfl, Dy, by decide, fun Hz rz Kz Dz _ _ => ?_⟩
        have KZ := K12.trans ((Kx.trans Ky).trans Kz)
        have ePz := ((Kx.trans Ky).trans Kz) _ _ ndP.1 eP12
        have eFz := KZ _ _ nFd eF10
        have eFCz := KZ _ _ nFCd eFC10
        have eFBz := KZ _ _ nFBd eFB10
        have rlWz := rlW10.same (kp_tup D10 KZ)
        have rlCz := rlC10.same (kp_tup D10 KZ)
        have rlBz := rlB.same (kp_tup D10 KZ)
        refine ⟨_, _, rfl, rfl, _, rfl, F, vsW, rfl, .inl ⟨SqL.of eFz, fun p1' np1' => ?_⟩⟩
        have s1 := same_upd (o := .tup vsW) (Same.refl Hz) np1'
        refine ⟨_, rfl, FC, vsC, rfl, .inl ⟨SqL.of (s1 _ _ eFCz), fun p2' np2' => ?_⟩⟩
        have s2 := same_upd (o := .tup vsC) (Same.refl _) np2'
        refine ⟨_, rfl, FB, vsB, rfl, .inl ⟨SqL.of (s2 _ _ (s1 _ _ eFBz)), fun p3' np3' => ?_⟩⟩
        have s3 := same_upd (o := .tup vsB) (Same.refl _) np3'
        refine ⟨_, rfl, Nat.le_of_lt (lt_s (by show _ < 100000; simp)), fun p5 np5 => ?_⟩
        have s5 := same_upd (o := .tup [V.int (6 + rx), V.int (3 + ry), V.int (1 + rz), V.ref p1', V.ref p2', V.ref p3', V.ref PT]) (Same.refl _) np5
        have k25 := s2.trans (s3.trans s5)
        have k35 := s3.trans s5
        have k15 := s1.trans k25
        refine q _ _ ⟨6 + rx, 3 + ry, 1 + rz, rowsOf (fW wk) ys, rowsOf (fC ck) (wsC.map (·.2)), rowsOf (fB bk) (wsB.map (·.2))⟩ ((K10.trans KZ).trans fun b o _ e => k15 b o e) (Dz.keep k15) ?_ ⟨p5, PT, _, _, _, _, _, _, ps, rfl, upd_same, k15 _ _ ePz, hpl, hp⟩ ?_
        · exact ⟨p5, _, _, _, _, rfl, upd_same, (rlWz.same (same_tup k15)).toV (k25 _ _ upd_same), (rlCz.same (same_tup k15)).toV (k35 _ _ upd_same), (rlBz.same (same_tup k15)).toV (s5 _ _ upd_same)⟩
        · exact style_ok dk hys sy hpermC hpwC hpermB hpwB _ _ _
end
end Vf

set_option Elab.async false
set_option linter.all false
set_option maxRecDepth 100000
set_option maxHeartbeats 4000000
namespace Vf
open PySem PySem.Spec PyProof.Rows L2 TL
section
variable {P : Program} {w : World} {K : PySem.W.Frag} {mg : Str → Option Value} {base : Heap}
theorem rIx_tup {p : Addr} {xs : List V} {i : Int} {v : V} {H : Hp} {Q : VK} (s : SqT K H p xs) (h : atI xs i = some v) (q : Q v H) : rIx K (.ref p) (.int i) H Q := .inr (.inl ⟨p, xs, i, v, rfl, rfl, s, h, q⟩)
theorem ok_law_pw (T : Txt K mg) : FnOk P w K mg base CX0 1 T.a_law_piece_width T.d_law_piece_width ["_law_shape_here", "_law_first", "_law_last"] spPieceWidth := by
  refine T.D_law_piece_width.F.ok sc_law_piece_width (fun vs H Q E h => ?_) (fun cdv A outer s H vs Q E hr h => ?_)
  · obtain ⟨v, S, zs, i, j, a, b, rfl, _⟩ := h
    rfl
  · obtain ⟨v, S, zs, i, j, a, b, rfl, ⟨sa, pa, us, rfl, e1, e2, pl⟩, ok, h0, hij, ea, eb, q⟩ := h
    have lj : j ≤ (places S zs).length + 1 := by
      have := (List.getElem?_eq_some_iff.mp eb).1
      rw [ends_len] at this
      omega
    obtain ⟨J, eJ⟩ : ∃ J : Nat, J = if j = (places S zs).length + 1 then 0 else j := ⟨_, rfl⟩
    rw [← eJ]
    have at1 : ∀ k : Nat, 0 < k → k ≤ (places S zs).length → ∃ (r : Nat × Nat) (x : Addr), us[k - 1]? = some (.ref x) ∧ H x = some (.tup [natV (pieceW S zs 0 r.1), natV (pieceW S zs r.1 zs.length), natV r.2]) ∧ (ends S zs)[k]? = some r.1 ∧ r ∈ places S zs := by
      intro k h1 h2
      have g : (places S zs)[k - 1]? = some (places S zs)[k - 1] := List.getElem?_eq_getElem (by omega)
      obtain ⟨x, gx, y, rfl, ey⟩ := pl.2 _ _ g
      have := ends_part g
      rw [show k - 1 + 1 = k by omega] at this
      exact ⟨_, y, gx, ey, this, List.getElem_mem _⟩
    refine ⟨_, (pss_cons (ps_if (pt_cmpR op_eq (pv 2) pe_int (nomark _)) (pss_one (ps_ret (pe_ifExp (pt_cmpR op_eq (pv 1) pe_int (nomark _)) (pe_ix ix_seq (pv 0) pe_int (fun _ _ => rfl)) (pe_ix ix_seq (pe_ix ix_seq (pe_ix ix_seq (pv 0) pe_int (fun _ _ => rfl)) (pe_op op_sub (pv 1) pe_int) (fun _ _ => rfl)) pe_int (fun _ _ => rfl))))) pss_nil)
      (pss_cons (ps_set (i := 3) sc_law_piece_width.nd rfl (.inl rfl) (pe_ix ix_seq (pe_ix ix_seq (pe_ix ix_seq (pv 0) pe_int (fun _ _ => rfl)) (pe_op op_sub (pv 2) pe_int) (fun _ _ => rfl)) pe_int (fun _ _ => rfl)))
      (pss_one (ps_ret (pe_ifExp (pt_cmpR op_eq (pv 1) pe_int (nomark _)) (pv 3) (pe_op op_sub (pe_op op_add (pe_ix ix_seq (pe_ix ix_seq (pe_ix ix_seq (pv 0) pe_int (fun _ _ => rfl)) (pe_op op_sub (pv 1) pe_int) (fun _ _ => rfl)) pe_int (fun _ _ => rfl)) (pv 3)) (pe_ix ix_seq (pv 0) pe_int (fun _ _ => rfl)))))))), ?_⟩
    have cA : ∀ k : Nat, 0 < k → (k : Int) - 1 = ((k - 1 : Nat) : Int) := fun k hk => by omega
    refine ⟨_, rfl, rfl, _, rfl, ?_⟩
    by_cases hj : j = (places S zs).length + 1
    · rw [if_pos hj] at eJ
      subst eJ
      rw [hj, ends_last] at eb
      have : zs.length = b := Option.some.inj eb
      subst this
      refine ifD (fun c => ?_) (fun c => absurd rfl c)
      refine ⟨_, rfl, rfl, _, rfl, ?_⟩
      refine ifD (fun c => ?_) (fun c => ?_)
      · have hi : i = 0 := by have := V.int.inj c; omega
        subst hi
        have : (0 : Nat) = a := Option.some.inj ea
        subst this
        exact ⟨_, rfl, rIx_tup (SqT.of e1) rfl (q _ (Same.refl _))⟩
      · have hi : i ≠ 0 := fun z => c (by rw [z]; rfl)
        obtain ⟨r, x, gx, ex, er, hr2⟩ := at1 i (by omega) (by omega)
        rw [er] at ea
        have : r.1 = a := Option.some.inj ea
        subst this
        exact ⟨_, rfl, rIx_tup (SqT.of e1) rfl ⟨_, rfl, _, _, rfl, rfl, rIx_tup (SqT.of e2) (by rw [cA i (by omega)]; exact atI_nat gx) (rIx_tup (SqT.of ex) rfl (q _ (Same.refl _)))⟩⟩
    · rw [if_neg hj] at eJ
      subst eJ
      refine ifD (fun c => absurd (V.int.inj c) (by omega)) (fun c => ?_)
      obtain ⟨r2, x2, gx2, ex2, er2, hr3⟩ := at1 J (by omega) (by omega)
      rw [er2] at eb
      have : r2.1 = b := Option.some.inj eb
      subst this
      refine ⟨_, rfl, rIx_tup (SqT.of e1) rfl ⟨_, rfl, _, _, rfl, rfl, rIx_tup (SqT.of e2) (by rw [cA J (by omega)]; exact atI_nat gx2) (rIx_tup (SqT.of ex2) rfl ?_)⟩⟩
      refine ⟨_, rfl, rfl, _, rfl, ?_⟩
      refine ifD (fun c => ?_) (fun c => ?_)
      · have hi : i = 0 := by have := V.int.inj c; omega
        subst hi
        have : (0 : Nat) = a := Option.some.inj ea
        subst this
        exact ⟨_, rfl, q _ (Same.refl _)⟩
      · have hi : i ≠ 0 := fun z => c (by rw [z]; rfl)
        obtain ⟨r, x, gx, ex, er, hr2⟩ := at1 i (by omega) (by omega)
        rw [er] at ea
        have : r.1 = a := Option.some.inj ea
        subst this
        refine ⟨_, rfl, rIx_tup (SqT.of e1) rfl ⟨_, rfl, _, _, rfl, rfl, rIx_tup (SqT.of e2) (by rw [cA i (by omega)]; exact atI_nat gx) (rIx_tup (SqT.of ex) rfl ⟨_, rfl, _, _, rfl, rfl, _, rfl, rIx_tup (SqT.of e1) rfl ⟨_, _, rfl, rfl, ?_⟩⟩)⟩⟩
        have hlt : r.1 < r2.1 := by
          have g1 : (places S zs)[i - 1]? = some (places S zs)[i - 1] := List.getElem?_eq_getElem (by omega)
          have g2 : (places S zs)[J - 1]? = some (places S zs)[J - 1] := List.getElem?_eq_getElem (by omega)
          have e3 := ends_part g1
          have e4 := ends_part g2
          rw [show i - 1 + 1 = i by omega, er] at e3
          rw [show J - 1 + 1 = J by omega, er2] at e4
          rw [Option.some.inj e3, Option.some.inj e4]
          exact List.pairwise_iff_getElem.mp (places_asc S zs) _ _ (by omega) (by omega) (by omega)
        have b1 := places_bd hr2
        have b2 := places_bd hr3
        have em := pieceW_mid (zs := zs) ok hlt (by omega) (by omega)
        show Q (V.int ((pieceW S zs r.1 zs.length : Int) + (pieceW S zs 0 r2.1 : Int) - (pieceW S zs 0 zs.length : Int))) H
        rw [em]
        exact q _ (Same.refl _)
end
end Vf

set_option Elab.async false
set_option linter.all false
set_option maxRecDepth 100000
set_option maxHeartbeats 4000000
namespace Vf
open PySem PySem.Spec PyProof.Rows L2 TL
section
variable {P : Program} {w : World} {K : PySem.W.Frag} {mg : Str → Option Value} {base : Heap}
def spLPos : Sp := fun vs H Q _ => ∃ (sa : Addr) (us : List V) (S : Sty) (Z : List (List Nat)), vs = [.ref sa] ∧ SeqH H sa us ∧ LV (ShV S H) us Z ∧ WdsOk S Z ∧
  ∀ H' p vs, Same H H' → H p = none → H' p = some (.lst vs) → LV (FgV H') vs (posL S Z) → Q (.ref p) H'
theorem ok_lpos (T : Txt K mg) : FnOk P w K mg base CX0 1 T.a_law_positions T.d_law_positions ["_law_shapes"] spLPos := by
  refine T.D_law_positions.F.ok sc_law_positions (fun vs H Q E h => ?_) (fun cdv A outer s H vs Q E hr h => ?_)
  · obtain ⟨_, _, _, _, rfl, _⟩ := h
    rfl
  · obtain ⟨sa, us, S, Z, rfl, es, lv, ok, q⟩ := h
    have lus := lv.1
    have l40 := ok.ln
    refine ⟨_, (pss_cons (ps_set (i := 1) sc_law_positions.nd rfl (.inl rfl) (pe_lst pa_nil))
      (pss_cons (ps_for PassesOwn.never rfl (pi_range1 (by rfl) T.n_range (pa_cons (pe_callB call_len (by rfl) T.n_len PySem.boot_len (pa_cons (pv 0) pa_nil)) pa_nil)) (pg_name (i := 2) sc_law_positions.nd rfl (.inl rfl)) (pss_one (ps_for PassesOwn.never rfl (pi_range1 (by rfl) T.n_range (pa_cons (pe_op op_add (pe_callB call_len (by rfl) T.n_len PySem.boot_len (pa_cons (pe_ix ix_seq (pe_ix ix_seq (pv 0) (pv 2) (fun _ _ => rfl)) pe_int (fun _ _ => rfl)) pa_nil)) pe_int) pa_nil)) (pg_name (i := 3) sc_law_positions.nd rfl (.inl rfl)) (pss_one (ps_expr (pe_bm PySem.F.plainAttrs_list PySem.F.slot_list_append PySem.F.type_list_append mt_append (pv 1) (pa_cons (pe_tup (pa_cons (pv 2) (pa_cons (pv 3) pa_nil))) pa_nil)))))))
      (pss_one (ps_ret (pe_op op_cat (pv 1) (pe_lst (pa_cons (pe_tup (pa_cons (pe_callB call_len (by rfl) T.n_len PySem.boot_len (pa_cons (pv 0) pa_nil)) (pa_cons pe_int pa_nil))) pa_nil))))))), ?_⟩
    refine ⟨by show 0 ≤ sizeLine; decide, fun l nl => ?_⟩
    have k1 := same_upd (o := .lst []) (Same.refl H) nl
    have el : upd H l (.lst []) l = some (.lst []) := upd_same
    generalize upd H l (.lst []) = H1 at k1 el
    refine ⟨_, rfl, _, us.length, rfl, (es.same k1).len, (Z.length : Int), by rw [lus], by omega, by omega, ?_⟩
    rw [Int.toNat_natCast]
    have app : ∀ (H3 : Hp) (zs : List V) (rs : List (Nat × Nat)) (p : Addr) (va vb : V) (a b : Nat), va = nV a → vb = nV b → Same H H3 → H3 l = some (.lst zs) → LV (FgV H3) zs rs → H3 p = none →
        upd H3 p (.tup [va, vb]) l = some (.lst zs) ∧ Same H (upd (upd H3 p (.tup [va, vb])) l (.lst (zs ++ [.ref p]))) ∧ LV (FgV (upd (upd H3 p (.tup [va, vb])) l (.lst (zs ++ [.ref p])))) (zs ++ [.ref p]) (rs ++ [(a, b)]) := fun H3 zs rs p va vb a b ha hb k3 e3 lz np => by
      subst ha hb
      have k4 := same_upd (o := .tup [nV a, nV b]) (Same.refl H3) np
      have e4 : upd H3 p (.tup [nV a, nV b]) p = some (.tup [nV a, nV b]) := upd_same
      generalize upd H3 p (.tup [nV a, nV b]) = H4 at k4 e4
      have el4 := k4 _ _ e3
      exact ⟨el4, same_mut (k3.trans k4) nl, LV.snoc (lz.mono fun _ _ z => (z.same k4).kt (kt_mut el4)) ⟨p, rfl, kt_mut el4 _ _ e4⟩⟩
    refine for_it walk_range (fun i σ' H' => ∃ (x2 x3 : Option V) (zs : List V), σ' = [some (.ref sa), some (.ref l), x2, x3] ∧ Same H H' ∧ H' l = some (.lst zs) ∧ LV (FgV H') zs ((List.range i).flatMap (rowL S Z))) ⟨none, none, [], rfl, k1, el, LV.nil⟩ (fun _ _ _ _ _ => trivial) ?_ ?_
    · rintro i x σ' H0 H2 hi ⟨x2, x3, zs, rfl, k2, e2, lz⟩ ⟨rfl, hx⟩
      have hx : x = nV i := by rw [hx]; exact int0 i
      subst hx
      obtain ⟨y, ey, sa2, pa, ws, rfl, e1, e2s, pl⟩ := lv.2 i _ (wz_at hi)
      have plen : ws.length = nP S (wz Z i) := pl.1
      have hn16 := ok.pl _ (wz_mem hi)
      have pl17 := pos_len ok i (by omega)
      have pl680 : i * 17 ≤ 40 * 17 := Nat.mul_le_mul_right _ (by omega)
      have lzl := lz.1
      have er : (List.range (i + 1)).flatMap (rowL S Z) = (List.range i).flatMap (rowL S Z) ++ rowL S Z i := by
        rw [List.range_succ, List.flatMap_append, List.flatMap_cons, List.flatMap_nil, List.append_nil]
      rw [er]
      refine ⟨_, rfl, _, rfl, (es.same k2).rix (atI_nat ey) (rIx_tup (SqT.of (k2 _ _ e1)) rfl ⟨_, ws.length, rfl, .inr ⟨ws, SqT.of (k2 _ _ e2s), rfl⟩, _, _, rfl, rfl, ((nP S (wz Z i) + 1 : Nat) : Int), by rw [plen]; rfl, by omega, by omega, ?_⟩)⟩
      rw [Int.toNat_natCast]
      refine for_it walk_range (fun u σ' H' => ∃ (x3 : Option V) (zs : List V), σ' = [some (.ref sa), some (.ref l), some (nV i), x3] ∧ Same H H' ∧ H' l = some (.lst zs) ∧ LV (FgV H') zs ((List.range i).flatMap (rowL S Z) ++ (rowL S Z i).take u)) ⟨x3, zs, rfl, k2, e2, by rw [List.take_zero, List.append_nil]; exact lz⟩ (fun _ _ _ _ _ => trivial) ?_ ?_
      · rintro u y σ' H0 H3 hu ⟨x3, zs, rfl, k3, e3, lz⟩ ⟨rfl, hy⟩
        have hy : y = nV u := by rw [hy]; exact int0 u
        subst hy
        have e : (rowL S Z i).take (u + 1) = (rowL S Z i).take u ++ [(i, u)] := by
          rw [List.take_succ]
          unfold rowL
          rw [List.getElem?_map, List.getElem?_range hu]; rfl
        have ll := lz.1
        rw [List.length_append, List.length_take, row_len] at ll
        rw [e, ← List.append_assoc]
        refine ⟨.ref l, rfl, .inl ⟨rfl, _, .inl (.inl e3)⟩, _, rfl, _, rfl, by show 2 ≤ sizeLine; decide, fun p np => ?_⟩
        have E := app H3 zs _ p (nV i) (nV u) i u rfl rfl k3 e3 lz np
        exact ⟨l, zs, _, rfl, rfl, E.1, szN (by omega), _, _, rfl, E.2.1, upd_same, E.2.2⟩
      · rintro σ' H3 ⟨x3, zs, rfl, k3, e3, lz⟩
        rw [List.take_of_length_le (l := rowL S Z i) (by rw [row_len]; exact Nat.le_refl _)] at lz
        exact ⟨_, _, zs, rfl, k3, e3, lz⟩
    · rintro σ' H2 ⟨x2, x3, zs, rfl, k2, e2, lz⟩
      have pl17 := pos_len ok Z.length (Nat.le_refl _)
      have pl680 : Z.length * 17 ≤ 40 * 17 := Nat.mul_le_mul_right _ (by omega)
      have lzl := lz.1
      refine ⟨_, rfl, _, rfl, _, us.length, rfl, (es.same k2).len, by show 2 ≤ sizeLine; decide, fun p np => ?_⟩
      have k3 := same_upd (o := .tup [V.int (us.length : Nat), V.int 0]) (Same.refl H2) np
      have ep : upd H2 p (.tup [V.int (us.length : Nat), V.int 0]) p = some (.tup [nV Z.length, nV 0]) := by rw [upd_same, lus]; rfl
      generalize upd H2 p (.tup [V.int (us.length : Nat), V.int 0]) = H3 at k3 ep
      refine ⟨by show 1 ≤ sizeLine; decide, fun p2 np2 => ?_⟩
      have k4 := same_upd (o := .lst [V.ref p]) (Same.refl H3) np2
      have ep2 : upd H3 p2 (.lst [V.ref p]) p2 = some (.lst [V.ref p]) := upd_same
      generalize upd H3 p2 (.lst [V.ref p]) = H4 at k4 ep2
      have k34 := k3.trans k4
      refine ⟨l, p2, zs, [.ref p], rfl, rfl, k34 _ _ e2, ep2, by show _ + 1 ≤ _; exact Nat.le_of_lt (szN (by omega)), fun p3 np3 => ?_⟩
      have k5 := same_upd (o := .lst (zs ++ [V.ref p])) (Same.refl H4) np3
      have k15 := k34.trans k5
      refine q _ p3 _ (k2.trans k15) (Same.free (k2.trans k34) np3) upd_same ?_
      exact LV.snoc (lz.mono fun _ _ z => z.same k15) ⟨p, rfl, (k4.trans k5) _ _ ep⟩
end
end Vf

set_option Elab.async false
set_option linter.all false
set_option maxRecDepth 100000
set_option maxHeartbeats 4000000
namespace Vf
open PySem PySem.Spec PyProof.Rows L2 TL
theorem snocI (ns : List Int) (x : Int) : (ns ++ [x]).sum = ns.sum + x := by
  rw [List.sum_append]; simp
theorem pw100 {S : Sty} (ok : StyOk S) {z : List Nat} (wd : WdOk z) {a m : Nat} (h : m ≤ nP S z + 1) : pieceW S z a (eA S z m) ≤ 100 := by
  rw [← pieceN_len ok]
  exact pieceW_small ok _ _ wd eA_le
theorem eA_zero (S : Sty) (z : List Nat) : eA S z 0 = 0 := rfl
theorem eA_end (S : Sty) (z : List Nat) : eA S z (nP S z + 1) = z.length := by
  unfold eA
  rw [List.getD_eq_getElem?_getD, show (ends S z)[nP S z + 1]? = some z.length from ends_last S z]; rfl
theorem pc_whole (S : Sty) (z : List Nat) : pcW S z 0 0 = pieceW S z 0 z.length := by
  show pieceW S z (eA S z 0) (eA S z (nP S z + 1)) = _
  rw [eA_zero, eA_end]
section
variable {P : Program} {w : World} {K : PySem.W.Frag} {mg : Str → Option Value} {base : Heap}
def spLNat : Sp := fun vs H Q _ => ∃ (sa ba ea : Addr) (us : List V) (S : Sty) (Z : List (List Nat)) (i k j m : Nat), vs = [.ref sa, .ref ba, .ref ea] ∧ SeqH H sa us ∧ LV (ShV S H) us Z ∧ WdsOk S Z ∧ (∀ z ∈ Z, WdOk z) ∧ H ba = some (.tup [nV i, nV k]) ∧ H ea = some (.tup [nV j, nV m]) ∧ i < Z.length ∧ k ≤ nP S (wz Z i) ∧ ((i = j ∧ k < m ∧ m ≤ nP S (wz Z i)) ∨ (i < j ∧ ((j, m) = (Z.length, 0) ∨ (j < Z.length ∧ m ≤ nP S (wz Z j))))) ∧
  ∀ H', Same H H' → natW S Z i k (j, m) ≤ 10000 → Q (nV (natW S Z i k (j, m))) H'
theorem ok_lnat (T : Txt K mg) : FnOk P w K mg base CX0 2 T.a_law_natural T.d_law_natural ["_law_shapes", "_law_start", "_law_end"] spLNat := by
  have G_law_piece_width : FnOk P w K mg base CX0 1 T.a_law_piece_width T.d_law_piece_width ["_law_shape_here", "_law_first", "_law_last"] spPieceWidth := ok_law_pw T
  refine T.D_law_natural.F.ok sc_law_natural (fun vs H Q E h => ?_) (fun cdv A outer s H vs Q E hr h => ?_)
  · obtain ⟨_, _, _, _, _, _, _, _, _, _, rfl, _⟩ := h
    rfl
  · obtain ⟨sa, ba, ea, us, S, Z, i, k, j, m, rfl, es, lv, ok, h16, eb, ee, hi, hk, hjm, q⟩ := h
    have l40 := ok.ln
    have lus := lv.1
    refine ⟨_, (pss_cons (ps_asg (pv 1) (pg_tup (by rfl) (pgs_cons (pg_name (i := 3) sc_law_natural.nd rfl (.inl rfl)) (pgs_cons (pg_name (i := 4) sc_law_natural.nd rfl (.inl rfl)) pgs_nil))))
      (pss_cons (ps_asg (pv 2) (pg_tup (by rfl) (pgs_cons (pg_name (i := 5) sc_law_natural.nd rfl (.inl rfl)) (pgs_cons (pg_name (i := 6) sc_law_natural.nd rfl (.inl rfl)) pgs_nil))))
      (pss_cons (ps_if (pt_cmpR op_eq (pv 3) (pv 5) (nomark _)) (pss_one (ps_ret (pe_call G_law_piece_width (hr.mono (by decide)) (by rfl) T.D_law_piece_width.G T.D_law_piece_width.F.kp T.D_law_piece_width.B .nil pass0 (pa_cons (pe_ix ix_seq (pv 0) (pv 3) (fun _ _ => rfl)) (pa_cons (pv 4) (pa_cons (pv 6) pa_nil)))))) pss_nil)
      (pss_cons (ps_set (i := 7) sc_law_natural.nd rfl (.inl rfl) (pe_op op_add (pe_call G_law_piece_width (hr.mono (by decide)) (by rfl) T.D_law_piece_width.G T.D_law_piece_width.F.kp T.D_law_piece_width.B .nil pass0 (pa_cons (pe_ix ix_seq (pv 0) (pv 3) (fun _ _ => rfl)) (pa_cons (pv 4) (pa_cons pe_int pa_nil)))) (pe_callB (cr_sum (by rfl)) (by rfl) T.n_sum (by decide +kernel) (pa_cons (pe_lc (own := [("_law_word", 8)]) (g := gName 8) (tt := tYes) rfl sc_law_natural.nd (pi_range2 (by rfl) T.n_range (pa_cons (pe_op op_add (pv 3) pe_int) (pa_cons (pv 5) pa_nil))) (blkOk_by (own := [("_law_word", 8)]) (N := ["_law_shapes", "_law_start", "_law_end", "_law_i", "_law_k", "_law_j", "_law_m", "_law_total", "_law_word"]) (sc := (defScope s_law_natural)) (by decide +kernel)) (fun _ _ _ _ _ => (pg_name (i := 8) sc_law_natural.nd rfl (.inl rfl))) (fun _ _ _ _ _ => pts_nil) (fun _ _ _ _ _ => (pe_op op_add pe_int (pe_ix (r := rIx K) ix_seq (pe_ix (r := rIx K) ix_seq (pv 0) (pv 8) (fun _ _ => rfl)) pe_int (fun _ _ => rfl))))) pa_nil))))
      (pss_one (ps_ret (pe_ifExp (pt_cmpR op_gt (pv 6) pe_int (nomark _)) (pe_op op_add (pe_op op_add (pv 7) pe_int) (pe_call G_law_piece_width (hr.mono (by decide)) (by rfl) T.D_law_piece_width.G T.D_law_piece_width.F.kp T.D_law_piece_width.B .nil pass0 (pa_cons (pe_ix ix_seq (pv 0) (pv 5) (fun _ _ => rfl)) (pa_cons pe_int (pa_cons (pv 6) pa_nil))))) (pv 7)))))))), ?_⟩
    refine ⟨_, rfl, ba, _, rfl, SqT.of eb, rfl, _, _, rfl, _, _, rfl, rfl, ?_⟩
    refine ⟨_, rfl, ea, _, rfl, SqT.of ee, rfl, _, _, rfl, _, _, rfl, rfl, ?_⟩
    refine ⟨_, rfl, _, rfl, rfl, _, rfl, ?_⟩
    refine ifD (fun c => ?_) (fun c => ?_)
    · have hij : i = j := by have := V.int.inj c; omega
      subst hij
      have hm : k < m ∧ m ≤ nP S (wz Z i) := by
        rcases hjm with h | h
        · exact h.2
        · omega
      obtain ⟨y, ey, sv⟩ := lv.2 i _ (wz_at hi)
      refine ⟨_, rfl, _, rfl, es.rix (atI_nat ey) ⟨_, rfl, _, rfl, y, S, wz Z i, k, m, eA S (wz Z i) k, eA S (wz Z i) m, ?_, sv, ok.st, ok.ne _ (wz_mem hi), hm.1, eA_at (by omega), eA_at (by omega), fun H' s => ?_⟩⟩
      · rw [if_neg (by show ¬ m = nP S (wz Z i) + 1; omega)]; rfl
      · have e : natW S Z i k (i, m) = pieceW S (wz Z i) (eA S (wz Z i) k) (eA S (wz Z i) m) := by
          have hm0 : ¬ m = 0 := by omega
          unfold natW pcW
          rw [if_neg hm0, Nat.sub_self, if_neg hm0]
          show 0 + _ = _
          rw [Nat.zero_add]; rfl
        rw [e] at q
        exact q _ s (Nat.le_trans (pw100 ok.st (h16 _ (wz_mem hi)) (by omega)) (by decide))
    · have hij : i < j := by
        rcases hjm with h | h
        · exact absurd (congrArg (fun n : Nat => V.int (n : Int)) h.1) c
        · exact h.1
      have hjZ : (j, m) = (Z.length, 0) ∨ (j < Z.length ∧ m ≤ nP S (wz Z j)) := by
        rcases hjm with h | h
        · omega
        · exact h.2
      have hjl : j ≤ Z.length := by
        rcases hjZ with h | h
        · exact Nat.le_of_eq (Prod.mk.inj h).1
        · omega
      clear c hjm
      obtain ⟨y, ey, sv⟩ := lv.2 i _ (wz_at hi)
      refine ⟨_, rfl, _, rfl, es.rix (atI_nat ey) ⟨_, rfl, y, S, wz Z i, k, nP S (wz Z i) + 1, eA S (wz Z i) k, eA S (wz Z i) (nP S (wz Z i) + 1), ?_, sv, ok.st, ok.ne _ (wz_mem hi), by omega, eA_at (by omega), eA_at (by omega), fun H1 k1 => ?_⟩⟩
      · rw [if_pos (show nP S (wz Z i) + 1 = (places S (wz Z i)).length + 1 from rfl)]; rfl
      have p1 : pieceW S (wz Z i) (eA S (wz Z i) k) (eA S (wz Z i) (nP S (wz Z i) + 1)) ≤ 100 := pw100 ok.st (h16 _ (wz_mem hi)) (by omega)
      have a1 : ahW S Z i k 1 = pieceW S (wz Z i) (eA S (wz Z i) k) (eA S (wz Z i) (nP S (wz Z i) + 1)) + 1 := by
        show 0 + (pcW S (wz Z (i + 0)) (kkA k 0) 0 + 1) = _
        rw [Nat.zero_add]; rfl
      generalize pieceW S (wz Z i) (eA S (wz Z i) k) (eA S (wz Z i) (nP S (wz Z i) + 1)) = n1 at p1 a1
      have es1 := es.same k1
      have h100 : ∀ w, w < Z.length → pieceW S (wz Z w) 0 (wz Z w).length ≤ 100 := fun w hw => by
        rw [← pieceN_len ok.st]
        exact pieceW_small ok.st _ _ (h16 _ (wz_mem hw)) (Nat.le_refl _)
      refine ⟨_, rfl, _, _, rfl, rfl, _, rfl, ((i : Int) + 1), (j : Int), rfl, by omega, fun D nD => ?_⟩
      refine lc_range (lo := (i : Int) + 1) (n := ((j : Int) - ((i : Int) + 1)).toNat) (fun t H' => Same H1 H' ∧ ∃ ns : List Int, ns.length = t ∧ 0 ≤ ns.sum ∧ ns.sum ≤ 101 * (t : Int) ∧ H' D = some (.lst (ns.map V.int)) ∧ ((ahW S Z i k (t + 1) : Nat) : Int) = (n1 : Int) + ns.sum + 1) ⟨same_upd (Same.refl H1) nD, [], rfl, Int.le_refl _, Int.le_refl _, upd_same, by rw [a1]; show _ = (n1 : Int) + 0 + 1; omega⟩ ?_ ?_
      · rintro t H2 ht ⟨k2, ns, l1, l2, l3, l4, l5⟩
        have hw : i + 1 + t < Z.length := by omega
        obtain ⟨y2, ey2, a2, pa2, vs2, rfl, e1, e2, pl2⟩ := lv.2 (i + 1 + t) _ (wz_at hw)
        have := h100 _ hw
        have k12 := k1.trans k2
        have ei : (i : Int) + 1 + (t : Int) = ((i + 1 + t : Nat) : Int) := by omega
        refine ⟨rfl, _, rfl, _, rfl, (es.same k12).rix (by rw [ei]; exact atI_nat ey2) (rIx_tup (SqT.of (k12 _ _ e1)) rfl ⟨_, _, rfl, rfl, _, l4, ?_, same_mut k2 nD, ns ++ [1 + ((pieceW S (wz Z (i + 1 + t)) 0 (wz Z (i + 1 + t)).length : Nat) : Int)], ?_, ?_, ?_, ?_, ?_⟩)⟩
        · rw [List.length_map, l1]; exact lt_s (by omega)
        · rw [List.length_append, l1]; rfl
        · rw [snocI]; omega
        · rw [snocI]; omega
        · rw [upd_same, List.map_append]; rfl
        · have ea : ahW S Z i k (t + 1 + 1) = ahW S Z i k (t + 1) + (pieceW S (wz Z (i + 1 + t)) 0 (wz Z (i + 1 + t)).length + 1) := by
            show _ + (pcW S (wz Z (i + (t + 1))) (kkA k (t + 1)) 0 + 1) = _
            rw [show i + (t + 1) = i + 1 + t by omega, show kkA k (t + 1) = 0 from if_neg (Nat.succ_ne_zero _), pc_whole]
          rw [ea, snocI]
          omega
      rintro H2 ⟨k2, ns, l1, l2, l3, l4, l5⟩
      rw [show ((j : Int) - ((i : Int) + 1)).toNat + 1 = j - i by omega] at l5
      have l3 : ns.sum ≤ 5000 := by omega
      obtain ⟨sn, hsn⟩ : ∃ sn : Nat, ns.sum = (sn : Int) := ⟨ns.sum.toNat, by omega⟩
      have k12 := k1.trans k2
      refine ⟨D, ns, rfl, SqL.of l4, ?_⟩
      rw [hsn]
      refine ⟨_, _, rfl, rfl, ?_⟩
      refine ⟨_, rfl, _, _, rfl, rfl, _, rfl, ?_⟩
      refine ite2 (fun cm => ?_) (fun cm => ?_)
      · have cm : (0 : Int) < (m : Int) := of_decide_eq_true cm
        have hj : j < Z.length ∧ m ≤ nP S (wz Z j) := by
          rcases hjZ with h | h
          · have := (Prod.mk.inj h).2; omega
          · exact h
        obtain ⟨y2, ey2, sv2⟩ := lv.2 j _ (wz_at hj.1)
        have p2 : pieceW S (wz Z j) (eA S (wz Z j) 0) (eA S (wz Z j) m) ≤ 100 := pw100 ok.st (h16 _ (wz_mem hj.1)) (by omega)
        refine ⟨_, rfl, _, _, rfl, rfl, _, rfl, _, rfl, (es.same k12).rix (atI_nat ey2) ⟨_, rfl, y2, S, wz Z j, 0, m, eA S (wz Z j) 0, eA S (wz Z j) m, ?_, ShV.kt sv2 (fun _ _ e => k12 _ _ e), ok.st, ok.ne _ (wz_mem hj.1), by omega, eA_at (by omega), eA_at (by omega), fun H3 k3 => ?_⟩⟩
        · rw [if_neg (by show ¬ m = nP S (wz Z j) + 1; omega)]; rfl
        · refine ⟨_, _, rfl, rfl, ?_⟩
          have e : natW S Z i k (j, m) = ahW S Z i k (j - i) + pieceW S (wz Z j) (eA S (wz Z j) 0) (eA S (wz Z j) m) := by
            have hm0 : ¬ m = 0 := by omega
            unfold natW pcW
            rw [if_neg hm0, if_neg hm0, show kkA k (j - i) = 0 from if_neg (by omega)]
          rw [e] at q
          generalize pieceW S (wz Z j) (eA S (wz Z j) 0) (eA S (wz Z j) m) = n2 at p2 q
          have := q H3 (k12.trans k3) (by omega)
          exact Eq.mp (congrArg (fun v => Q v H3) (congrArg V.int (by omega))) this
      · have hm0 : m = 0 := by
          have : ¬ (0 : Int) < (m : Int) := fun z => cm (decide_eq_true z)
          omega
        have e : natW S Z i k (j, m) = ahW S Z i k (j - i) - 1 := if_pos hm0
        rw [e] at q
        have := q H2 k12 (by omega)
        exact ⟨_, rfl, Eq.mp (congrArg (fun v => Q v H2) (congrArg V.int (by omega))) this⟩
end
end Vf

set_option Elab.async false
set_option linter.all false
set_option maxRecDepth 100000
set_option maxHeartbeats 4000000
namespace Vf
open PySem PySem.Spec PyProof.Rows L2 TL
theorem pos_lt (S : Sty) (Z : List (List Nat)) : ∀ n, ((List.range n).flatMap (rowL S Z)).Pairwise fun a b => (a.1 = b.1 ∧ a.2 < b.2) ∨ a.1 < b.1
  | 0 => .nil
  | n + 1 => by
    rw [List.range_succ, List.flatMap_append, List.flatMap_cons, List.flatMap_nil, List.append_nil]
    refine List.pairwise_append.mpr ⟨pos_lt S Z n, ?_, fun a ha b hb => .inr ?_⟩
    · unfold rowL
      rw [List.pairwise_map]
      exact (List.pairwise_lt_range).imp fun h => .inl ⟨rfl, h⟩
    · obtain ⟨i, hi, ha⟩ := List.mem_flatMap.mp ha
      obtain ⟨k, _, rfl⟩ := List.mem_map.mp ha
      obtain ⟨m, _, rfl⟩ := List.mem_map.mp hb
      exact List.mem_range.mp hi
theorem pos_lt_all (S : Sty) (Z : List (List Nat)) : (posL S Z).Pairwise fun a b => (a.1 = b.1 ∧ a.2 < b.2) ∨ a.1 < b.1 := by
  refine List.pairwise_append.mpr ⟨pos_lt S Z _, List.pairwise_singleton _ _, fun a ha b hb => .inr ?_⟩
  obtain ⟨i, hi, ha⟩ := List.mem_flatMap.mp ha
  obtain ⟨k, _, rfl⟩ := List.mem_map.mp ha
  rw [List.mem_singleton.mp hb]
  exact List.mem_range.mp hi
theorem pos_is {S : Sty} {Z : List (List Nat)} {y : Nat × Nat} (h : y ∈ posL S Z) : y = (Z.length, 0) ∨ (y.1 < Z.length ∧ y.2 ≤ nP S (wz Z y.1)) := by
  rcases List.mem_append.mp h with h | h
  · obtain ⟨i, hi, ha⟩ := List.mem_flatMap.mp h
    obtain ⟨k, hk, rfl⟩ := List.mem_map.mp ha
    exact .inr ⟨List.mem_range.mp hi, Nat.le_of_lt_succ (List.mem_range.mp hk)⟩
  · exact .inl (List.mem_singleton.mp h)
/-- two places of the net, the one before the other -/
theorem pos_two {S : Sty} {Z : List (List Nat)} {a b : Nat} {x y : Nat × Nat} (hab : a < b) (ha : (posL S Z)[a]? = some x) (hb : (posL S Z)[b]? = some y) :
    x.1 < Z.length ∧ x.2 ≤ nP S (wz Z x.1) ∧ ((x.1 = y.1 ∧ x.2 < y.2 ∧ y.2 ≤ nP S (wz Z x.1)) ∨ (x.1 < y.1 ∧ ((y.1, y.2) = (Z.length, 0) ∨ (y.1 < Z.length ∧ y.2 ≤ nP S (wz Z y.1))))) := by
  obtain ⟨la, rfl⟩ := List.getElem?_eq_some_iff.mp ha
  obtain ⟨lb, rfl⟩ := List.getElem?_eq_some_iff.mp hb
  have p := List.pairwise_iff_getElem.mp (pos_lt_all S Z) a b la lb hab
  have hx := pos_is (List.getElem_mem la)
  have hy := pos_is (List.getElem_mem lb)
  generalize (posL S Z)[a] = x at *
  generalize (posL S Z)[b] = y at *
  obtain ⟨i, k⟩ := x
  obtain ⟨j, m⟩ := y
  simp only [Prod.mk.injEq] at hx hy p ⊢
  rcases p with ⟨rfl, h⟩ | h
  · rcases hy with ⟨_, rfl⟩ | hy
    · omega
    · exact ⟨hy.1, by omega, .inl ⟨rfl, h, hy.2⟩⟩
  · rcases hx with ⟨rfl, _⟩ | hx
    · rcases hy with ⟨rfl, _⟩ | hy <;> omega
    · exact ⟨hx.1, hx.2, .inr ⟨h, hy⟩⟩
section
variable {P : Program} {w : World} {K : PySem.W.Frag} {mg : Str → Option Value} {base : Heap}
def spMeas : Sp := fun vs H Q _ => ∃ (d l sa : Addr) (us : List V) (S : Sty) (Z : List (List Nat)), vs = [.ref d, .ref sa] ∧ DI d l H ∧ sa ≠ d ∧ H sa = some (.tup us) ∧ LV (ShV S H) us Z ∧ WdsOk S Z ∧ (∀ z ∈ Z, WdOk z) ∧ 0 < Z.length ∧
  ∀ H' n, Kp d H H' → DI d l H' → n ≤ 999999 → Q (nV n) H'
theorem ok_meas (T : Txt K mg) : FnOk P w K mg base CX0 3 T.a_law_measure T.d_law_measure ["_law_d", "_law_shapes"] spMeas := by
  have G_law_draw : FnOk P w K mg base CX0 1 T.a_law_draw T.d_law_draw ["_law_d", "_law_many"] spDraw := ok_draw T
  have G_law_pick : FnOk P w K mg base CX0 2 T.a_law_pick T.d_law_pick ["_law_d", "_law_row"] (spPick K) := ok_pick T
  have G_law_positions : FnOk P w K mg base CX0 1 T.a_law_positions T.d_law_positions ["_law_shapes"] spLPos := ok_lpos T
  have G_law_natural : FnOk P w K mg base CX0 2 T.a_law_natural T.d_law_natural ["_law_shapes", "_law_start", "_law_end"] spLNat := ok_lnat T
  refine T.D_law_measure.F.ok sc_law_measure (fun vs H Q E h => ?_) (fun cdv A outer s H vs Q E hr h => ?_)
  · obtain ⟨_, _, _, _, _, _, rfl, _⟩ := h
    rfl
  · obtain ⟨d, l, sa, us, S, Z, rfl, hD, nsd, es, lv, ok, h16, h0, q⟩ := h
    have l40 := ok.ln
    have lus := lv.1
    have h100 : ∀ w, w < Z.length → pieceW S (wz Z w) 0 (wz Z w).length ≤ 100 := fun w hw => by
      rw [← pieceN_len ok.st]
      exact pieceW_small ok.st _ _ (h16 _ (wz_mem hw)) (Nat.le_refl _)
    refine ⟨_, (pss_cons (ps_set (i := 2) sc_law_measure.nd rfl (.inl rfl) (pe_callB (cr_max (by rfl)) (by rfl) T.n_max (by decide +kernel) (pa_cons (pe_lc (own := [("_law_shape_here", 10)]) (g := gName 10) (tt := tYes) rfl sc_law_measure.nd (pi_tup (pv 1)) (blkOk_by (own := [("_law_shape_here", 10)]) (N := ["_law_d", "_law_shapes", "_law_widest", "_law_total", "_law_places_here", "_law_first", "_law_behind", "_law_line", "_law_more", "_law_menu", "_law_shape_here"]) (sc := (defScope s_law_measure)) (by decide +kernel)) (fun _ _ _ _ _ => (pg_name (i := 10) sc_law_measure.nd rfl (.inl rfl))) (fun _ _ _ _ _ => pts_nil) (fun _ _ _ _ _ => (pe_ix (r := rIxT K) ix_tup (pv 10) pe_int (fun _ _ => rfl)))) pa_nil)))
      (pss_cons (ps_set (i := 3) sc_law_measure.nd rfl (.inl rfl) (pe_op op_sub (pe_callB (cr_sum (by rfl)) (by rfl) T.n_sum (by decide +kernel) (pa_cons (pe_lc (own := [("_law_shape_here", 10)]) (g := gName 10) (tt := tYes) rfl sc_law_measure.nd (pi_tup (pv 1)) (blkOk_by (own := [("_law_shape_here", 10)]) (N := ["_law_d", "_law_shapes", "_law_widest", "_law_total", "_law_places_here", "_law_first", "_law_behind", "_law_line", "_law_more", "_law_menu", "_law_shape_here"]) (sc := (defScope s_law_measure)) (by decide +kernel)) (fun _ _ _ _ _ => (pg_name (i := 10) sc_law_measure.nd rfl (.inl rfl))) (fun _ _ _ _ _ => pts_nil) (fun _ _ _ _ _ => (pe_op op_add (pe_ix (r := rIxT K) ix_tup (pv 10) pe_int (fun _ _ => rfl)) pe_int))) pa_nil)) pe_int))
      (pss_cons (ps_set (i := 4) sc_law_measure.nd rfl (.inl rfl) (pe_call G_law_positions (hr.mono (by decide)) (by rfl) T.D_law_positions.G T.D_law_positions.F.kp T.D_law_positions.B .nil pass0 (pa_cons (pv 1) pa_nil)))
      (pss_cons (ps_set (i := 5) sc_law_measure.nd rfl (.inl rfl) (pe_call G_law_draw (hr.mono (by decide)) (by rfl) T.D_law_draw.G T.D_law_draw.F.kp T.D_law_draw.B .nil pass0 (pa_cons (pv 0) (pa_cons (pe_op op_sub (pe_callB call_len_seq (by rfl) T.n_len PySem.boot_len (pa_cons (pv 4) pa_nil)) pe_int) pa_nil))))
      (pss_cons (ps_set (i := 6) sc_law_measure.nd rfl (.inl rfl) (pe_op op_add (pe_op op_add (pv 5) pe_int) (pe_call G_law_draw (hr.mono (by decide)) (by rfl) T.D_law_draw.G T.D_law_draw.F.kp T.D_law_draw.B .nil pass0 (pa_cons (pv 0) (pa_cons (pe_op op_sub (pe_op op_sub (pe_callB call_len_seq (by rfl) T.n_len PySem.boot_len (pa_cons (pv 4) pa_nil)) pe_int) (pv 5)) pa_nil)))))
      (pss_cons (ps_set (i := 7) sc_law_measure.nd rfl (.inl rfl) (pe_call G_law_natural (hr.mono (by decide)) (by rfl) T.D_law_natural.G T.D_law_natural.F.kp T.D_law_natural.B .nil pass0 (pa_cons (pv 1) (pa_cons (pe_ix ix_list (pv 4) (pv 5) (fun _ _ => rfl)) (pa_cons (pe_ix ix_list (pv 4) (pv 6) (fun _ _ => rfl)) pa_nil)))))
      (pss_cons (ps_set (i := 8) sc_law_measure.nd rfl (.inl rfl) (pe_op op_add (pe_op op_add (pv 2) pe_int) (pe_call G_law_draw (hr.mono (by decide)) (by rfl) T.D_law_draw.G T.D_law_draw.F.kp T.D_law_draw.B .nil pass0 (pa_cons (pv 0) (pa_cons pe_int pa_nil)))))
      (pss_cons (ps_set (i := 9) sc_law_measure.nd rfl (.inl rfl) (pe_lst (pa_cons (pv 2) (pa_cons (pe_callB (call_max2 (by rfl)) (by rfl) T.n_max (by decide +kernel) (pa_cons pe_int (pa_cons (pe_op op_sub (pv 2) pe_int) pa_nil))) (pa_cons (pe_op op_add (pe_op op_fdivN (pv 2) pe_int) pe_int) (pa_cons (pv 3) (pa_cons (pe_callB (call_max2 (by rfl)) (by rfl) T.n_max (by decide +kernel) (pa_cons pe_int (pa_cons (pe_op op_sub (pv 3) pe_int) pa_nil))) (pa_cons (pe_callB (call_max2 (by rfl)) (by rfl) T.n_max (by decide +kernel) (pa_cons (pv 2) (pa_cons (pe_op op_fdivN (pv 3) pe_int) pa_nil))) (pa_cons (pv 7) (pa_cons (pv 7) pa_nil))))))))))
      (pss_one (ps_ret (pe_call G_law_pick (hr.mono (by decide)) (by rfl) T.D_law_pick.G T.D_law_pick.F.kp T.D_law_pick.B .nil pass0 (pa_cons (pv 0) (pa_cons (pe_op op_cat (pv 9) (pe_lst (pa_cons (pv 8) (pa_cons (pv 8) (pa_cons (pe_op op_add pe_int (pe_call G_law_draw (hr.mono (by decide)) (by rfl) T.D_law_draw.G T.D_law_draw.F.kp T.D_law_draw.B .nil pass0 (pa_cons (pv 0) (pa_cons pe_int pa_nil)))) pa_nil))))) pa_nil))))))))))))), ?_⟩
    refine ⟨_, rfl, sa, rfl, ⟨_, SqT.of es⟩, fun D nD => ?_⟩
    refine lc_tup (K := K) (a := sa) (xs := us) (fun t H' => Same H H' ∧ ∃ ns : List Int, ns.length = t ∧ (∀ y ∈ ns, 0 ≤ y ∧ y ≤ 100) ∧ H' D = some (.lst (ns.map V.int))) ⟨same_upd (Same.refl H) nD, [], rfl, (fun _ h => nomatch h), upd_same⟩ ?_ ?_ ?_
    · rintro i H' _ ⟨k, _⟩
      exact SqT.of (k _ _ es)
    · rintro t x H' hx ⟨k2, ns, l1, l2, l4⟩
      obtain ⟨z, ez, a2, pa2, vs2, rfl, e1, e2, pl2⟩ := lv.at hx
      have ht := (List.getElem?_eq_some_iff.mp hx).1
      refine ⟨rfl, _, rfl, a2, _, _, _, rfl, rfl, SqT.of (k2 _ _ e1), rfl, _, l4, by rw [List.length_map, l1]; exact lt_s (by omega), same_mut k2 nD, _, ?_, ?_, by rw [upd_same]; exact congrArg (fun y => some (HO.lst y)) (List.map_append (l₂ := [((pieceW S z 0 z.length : Nat) : Int)])).symm⟩
      · rw [List.length_append, l1]; rfl
      · intro y hy
        rcases List.mem_append.mp hy with hy | hy
        · exact l2 y hy
        · rw [List.mem_singleton.mp hy]
          have : pieceW S z 0 z.length ≤ 100 := by
            rw [← pieceN_len ok.st]
            exact pieceW_small ok.st _ _ (h16 _ (List.mem_of_getElem? ez)) (Nat.le_refl _)
          omega
    rintro H1 ⟨k1, ns, l1, l2, l4⟩
    refine ⟨D, ns, rfl, SqL.of l4, by omega, fun wi hwi _ => ?_⟩
    have hw := l2 wi hwi
    obtain ⟨w0, rfl⟩ : ∃ w0 : Nat, wi = (w0 : Int) := ⟨wi.toNat, by omega⟩
    refine ⟨_, rfl, sa, rfl, ⟨_, SqT.of (k1 _ _ es)⟩, fun D2 nD2 => ?_⟩
    refine lc_tup (K := K) (a := sa) (xs := us) (fun t H' => Same H1 H' ∧ ∃ ns : List Int, ns.length = t ∧ (t : Int) ≤ ns.sum ∧ ns.sum ≤ 101 * (t : Int) ∧ H' D2 = some (.lst (ns.map V.int))) ⟨same_upd (Same.refl H1) nD2, [], rfl, Int.le_refl _, Int.le_refl _, upd_same⟩ ?_ ?_ ?_
    · rintro i H' _ ⟨k, _⟩
      exact SqT.of (k _ _ (k1 _ _ es))
    · rintro t x H' hx ⟨k2, ns, l1, l2, l3, l4⟩
      obtain ⟨z, ez, a2, pa2, vs2, rfl, e1, e2, pl2⟩ := lv.at hx
      have ht := (List.getElem?_eq_some_iff.mp hx).1
      have hp : pieceW S z 0 z.length ≤ 100 := by
        rw [← pieceN_len ok.st]
        exact pieceW_small ok.st _ _ (h16 _ (List.mem_of_getElem? ez)) (Nat.le_refl _)
      refine ⟨rfl, _, rfl, a2, _, _, _, rfl, rfl, SqT.of (k2 _ _ (k1 _ _ e1)), rfl, _, _, rfl, rfl, _, l4, by rw [List.length_map, l1]; exact lt_s (by omega), same_mut k2 nD2, ns ++ [((pieceW S z 0 z.length : Nat) : Int) + 1], by rw [List.length_append, l1]; rfl, by rw [snocI]; omega, by rw [snocI]; omega, by rw [upd_same, List.map_append]; rfl⟩
    rintro H2 ⟨k2, ns2, m1, m2, m3, m4⟩
    have m2 : (us.length : Int) ≤ ns2.sum := m2
    have m3 : ns2.sum ≤ 101 * (us.length : Int) := m3
    refine ⟨D2, ns2, rfl, SqL.of m4, _, _, rfl, rfl, ?_⟩
    obtain ⟨tt, htt, htb⟩ : ∃ tt : Nat, ns2.sum = (tt : Int) + 1 ∧ tt ≤ 5000 := ⟨(ns2.sum - 1).toNat, by omega, by omega⟩
    have k12 := k1.trans k2
    have D2' := hD.keep k12
    refine ⟨_, rfl, sa, us, S, Z, rfl, .inl (k12 _ _ es), lv.mono fun _ _ z => ShV.kt z fun _ _ e => k12 _ _ e, ok, fun H3 PP pv k3 nPP ePP lp => ?_⟩
    have lN := lp.1
    have hN := posL_len (S := S) (Z := Z) ok
    have hN2 : 2 ≤ (posL S Z).length := by
      obtain ⟨b, hb⟩ := pos_has (S := S) (Z := Z) (y := (0, 0)) (.inr ⟨h0, Nat.zero_le _⟩)
      obtain ⟨c, hc⟩ := pos_has (S := S) (Z := Z) (y := (Z.length, 0)) (.inl rfl)
      have h1 := (List.getElem?_eq_some_iff.mp hb).1
      have h2 := (List.getElem?_eq_some_iff.mp hc).1
      have hne : b ≠ c := fun z => by
        rw [z, hc] at hb
        have := (Prod.mk.inj (Option.some.inj hb)).1
        omega
      omega
    have k13 := k12.trans k3
    have D3 := hD.keep k13
    have KA : Kp d H H3 := fun b o _ e => k13 b o e
    refine ⟨_, rfl, _, rfl, PP, pv, rfl, .inl (SqL.of ePP), _, _, rfl, rfl, d, l, _, rfl, D3, by show ((pv.length : Int) - 1) ≤ _; omega, fun H4 r K4 D4 r1 r2 => ?_⟩
    obtain ⟨f, rfl, hf⟩ : ∃ f : Nat, r = (f : Int) ∧ f + 1 < (posL S Z).length := by
      by_cases c : (2 : Int) ≤ (pv.length : Int) - 1
      · have := r2 c; exact ⟨r.toNat, by omega, by omega⟩
      · exact ⟨0, r1 (by show (pv.length : Int) - 1 < 2; omega), by omega⟩
    have nPd : PP ≠ d := (D2'.nd nPP).1
    have eP4 := K4 _ _ nPd ePP
    refine ⟨_, rfl, _, _, rfl, rfl, _, rfl, _, rfl, PP, pv, rfl, .inl (SqL.of eP4), _, _, rfl, rfl, _, rfl, _, _, rfl, rfl, d, l, _, rfl, D4, by show ((pv.length : Int) - 1 - (f : Int)) ≤ _; omega, fun H5 r K5 D5 r1 r2 => ?_⟩
    obtain ⟨g, rfl, hg⟩ : ∃ g : Nat, r = (g : Int) ∧ f + 1 + g < (posL S Z).length := by
      by_cases c : (2 : Int) ≤ (pv.length : Int) - 1 - (f : Int)
      · have := r2 c; exact ⟨r.toNat, by omega, by omega⟩
      · exact ⟨0, r1 (by show (pv.length : Int) - 1 - (f : Int) < 2; omega), by omega⟩
    refine ⟨_, _, rfl, rfl, ?_⟩
    have eP5 := K5 _ _ nPd eP4
    have gf : (posL S Z)[f]? = some (posL S Z)[f] := List.getElem?_eq_getElem (by omega)
    have gb : (posL S Z)[f + 1 + g]? = some (posL S Z)[f + 1 + g] := List.getElem?_eq_getElem hg
    obtain ⟨xf, exf, pf, rfl, epf⟩ := lp.2 f _ gf
    obtain ⟨xb, exb, pb, rfl, epb⟩ := lp.2 (f + 1 + g) _ gb
    have two := pos_two (by omega) gf gb
    have K35 := K4.trans K5
    have K15 := KA.trans K35
    have tup5 : ∀ a xs, H a = some (.tup xs) → H5 a = some (.tup xs) := fun a xs e => K15 _ _ (hD.neT e) e
    refine ⟨_, rfl, _, rfl, _, rfl, PP, pv, _, _, rfl, rfl, SqL.of eP5, atI_nat exf, _, rfl, _, rfl, PP, pv, _, _, rfl, rfl, SqL.of eP5, (congrArg (atI pv) (show ((f : Int) + 1) + (g : Int) = ((f + 1 + g : Nat) : Int) by omega)).trans (atI_nat exb), sa, pf, pb, us, S, Z, _, _, _, _, rfl, .inl (K15 _ _ nsd es), lv.mono fun _ _ z => ShV.kt z tup5, ok, h16, K35 _ _ (D3.neT epf) epf, K35 _ _ (D3.neT epb) epb, two.1, two.2.1, two.2.2, fun H6 k6 hnl => ?_⟩
    generalize natW S Z (posL S Z)[f].1 (posL S Z)[f].2 ((posL S Z)[f + 1 + g].1, (posL S Z)[f + 1 + g].2) = nl at hnl ⊢
    have D6 := D5.keep k6
    refine ⟨_, rfl, _, _, rfl, rfl, _, rfl, d, l, 8, rfl, D6, by decide, fun H7 r7 K7 D7 _ p7 => ?_⟩
    have p7 := p7 (by decide)
    refine ⟨_, _, rfl, rfl, ?_⟩
    refine ⟨_, rfl, _, rfl, _, _, rfl, rfl, _, _, rfl, _, rfl, _, _, rfl, rfl, ⟨by decide, by decide⟩, _, _, rfl, rfl, _, rfl, _, rfl, _, _, rfl, rfl, _, _, rfl, _, rfl, _, rfl, _, _, rfl, rfl, ⟨by decide, by decide⟩, _, _, rfl, _, rfl, _, rfl, Nat.le_of_lt (lt_s (by show _ < 100000; simp)), fun p np => ?_⟩
    have ndp := D7.nd np
    refine ⟨_, rfl, _, rfl, _, rfl, _, rfl, _, rfl, d, l, 24, rfl, D7.new np, by decide, fun H8 r8 K8 D8 _ p8 => ?_⟩
    have p8 := p8 (by decide)
    have ep8 := K8 _ _ ndp.1 upd_same
    refine ⟨_, _, rfl, rfl, Nat.le_of_lt (lt_s (by show _ < 100000; simp)), fun p2 np2 => ?_⟩
    have k2' := same_upd (o := .lst [V.int ((w0 : Int) + 1 + r7), V.int ((w0 : Int) + 1 + r7), V.int (1 + r8)]) (Same.refl H8) np2
    refine ⟨p, p2, _, _, rfl, rfl, k2' _ _ ep8, upd_same, by show 11 ≤ sizeLine; decide, fun p3 np3 => ?_⟩
    have D9 := D8.keep k2'
    refine ⟨d, l, _, _, rfl, D9.new np3, .inl ⟨p3, rfl, (D9.nd np3).1, SqL.of upd_same⟩, by simp, by simp, fun H9 v K9 D9' hv => ?_⟩
    obtain ⟨n, rfl, hn⟩ : ∃ n : Nat, v = nV n ∧ n ≤ 999999 := by
      have big : ∀ e : Int, 0 ≤ e → e ≤ 999999 → ∃ n : Nat, V.int e = nV n ∧ n ≤ 999999 := fun e a b => ⟨e.toNat, congrArg V.int (by omega), by omega⟩
      have f2 : ∀ e : Int, 0 ≤ e → 0 ≤ e.fdiv 2 ∧ e.fdiv 2 ≤ e := fun e he => by rw [Int.fdiv_eq_ediv_of_nonneg _ (by decide)]; omega
      have fw := f2 w0 (by omega)
      have ft := f2 (ns2.sum - 1) (by omega)
      simp only [List.mem_append, List.mem_cons, List.not_mem_nil, or_false] at hv
      rcases hv with (rfl | rfl | rfl | rfl | rfl | rfl | rfl | rfl) | rfl | rfl | rfl
      all_goals first | exact ⟨_, rfl, by omega⟩ | exact big _ (by omega) (by omega) | exact big _ (by split <;> omega) (by split <;> omega)
    have Kx : Kp d H H8 := ((K15.trans (fun b o _ e => k6 b o e : Kp d H5 H6)).trans (K7.new np)).trans K8
    exact q H9 n ((Kx.trans (fun b o _ e => k2' b o e)).trans ((Kp.refl d _).new np3 |>.trans K9)) D9' hn
end
end Vf

set_option Elab.async false
set_option linter.all false
set_option maxRecDepth 100000
set_option maxHeartbeats 4000000
namespace Vf
open PySem PySem.Spec PyProof.Rows L2 TL
theorem nP_dw (S : Sty) (z : List Nat) : nP S z ≤ z.length - 1 := by
  unfold nP places
  have h1 := List.length_filterMap_le (fun k => (look S.B (z.getD (k - 1) 0, z.getD k 0)).map fun p => (k, p)) (List.range' 2 (z.length - 3))
  rw [List.length_range'] at h1
  omega
theorem posR_len (S : Sty) (Z : List (List Nat)) : ∀ n, n ≤ Z.length → ((List.range n).flatMap (rowL S Z)).length ≤ sumTo Z n + n
  | 0, _ => Nat.zero_le _
  | n + 1, h => by
    have ih := posR_len S Z n (by omega)
    have h1 := nP_dw S (wz Z n)
    have h2 : (rowL S Z n).length = nP S (wz Z n) + 1 := by unfold rowL; rw [List.length_map, List.length_range]
    rw [List.range_succ, List.flatMap_append, List.flatMap_cons, List.flatMap_nil, List.append_nil, List.length_append, sumTo_succ (wz_at (show n < Z.length from h)), h2]
    omega
theorem posL_dw {S : Sty} {Z : List (List Nat)} (h : DwOk Z) : (posL S Z).length ≤ 91 := by
  have h1 := posR_len S Z Z.length (Nat.le_refl _)
  have h2 := sumTo_le (Z := Z) (i := Z.length)
  have h3 := h.sm
  have h4 := h.ln
  unfold posL
  rw [List.length_append]
  show _ + 1 ≤ 91
  omega
theorem netQ_dw {M L : Nat} {S : Sty} {Z : List (List Nat)} (h : (posL S Z).length ≤ 91) (ok : WdsOk S Z) : (netQ M L S Z).length ≤ 100000 := by
  have g : ∀ n, ((List.range n).flatMap (rowQ M L S Z)).length ≤ n * 801 := fun n => by
    induction n with
    | zero => exact Nat.zero_le _
    | succ n ih =>
      have h2 : (rowQ M L S Z n).length ≤ 801 := by
        unfold rowQ linesF
        rw [List.length_map, List.length_map]
        exact ends_flen ok
      rw [List.range_succ, List.flatMap_append, List.flatMap_cons, List.flatMap_nil, List.append_nil, List.length_append]
      omega
  have := g ((posL S Z).length - 1)
  unfold netQ
  omega
theorem DwOk.wds {S : Sty} {Z : List (List Nat)} (h : DwOk Z) (st : StyOk S) : WdsOk S Z := ⟨st, h.ne, fun z hz => Nat.le_trans (places_len S z) (h.wd z hz).len, Nat.le_trans h.ln (by decide)⟩
def RwQ (H : Hp) (x : V) : Prop := ∃ (b sa pd pp np t : Addr) (us pus nus : List V) (S : Sty) (Z : List (List Nat)) (M L : Nat), x = .ref b ∧ H b = some (.tup [.ref sa, nV M, nV L, .ref pd]) ∧ H sa = some (.tup us) ∧ LV (ShV S H) us Z ∧ WdsOk S Z ∧ (posL S Z).length ≤ 91 ∧ M ≤ 1000000 ∧ H pd = some (.tup [.ref pp, .ref np]) ∧ H pp = some (.tup pus) ∧ LV (FgV H) pus (posL S Z) ∧ H np = some (.tup [nV (posL S Z).length, .ref t]) ∧ H t = some (.tup nus) ∧ LV (ArcV H) nus (netQ M L S Z)
theorem RwQ.kt {H H' : Hp} {x : V} (h : RwQ H x) (k : ∀ a xs, H a = some (.tup xs) → H' a = some (.tup xs)) : RwQ H' x := by
  obtain ⟨b, sa, pd, pp, np, t, us, pus, nus, S, Z, M, L, h1, h2, h3, h4, h5, h6, h7, h8, h9, h10, h11, h12, h13⟩ := h
  exact ⟨b, sa, pd, pp, np, t, us, pus, nus, S, Z, M, L, h1, k _ _ h2, k _ _ h3, h4.mono fun _ _ z => z.kt k, h5, h6, h7, k _ _ h8, k _ _ h9, h10.mono fun _ _ z => z.kt k, k _ _ h11, k _ _ h12, h13.mono fun _ _ z => z.mono k⟩
section
variable {P : Program} {w : World} {K : PySem.W.Frag} {mg : Str → Option Value} {base : Heap}
def spDrows : Sp := fun vs H Q _ => ∃ (d l : Addr), vs = [.ref d] ∧ DI d l H ∧ ∀ H' L us, Kp d H H' → DI d l H' → H L = none → H' L = some (.lst us) → us.length = 2 → (∀ x ∈ us, RwQ H' x) → Q (.ref L) H'
end
end Vf

set_option Elab.async false
set_option linter.all false
set_option maxRecDepth 100000
set_option maxHeartbeats 4000000
namespace Vf
open PySem PySem.Spec PyProof.Rows L2 TL
theorem cut_take (us : List V) (n : Nat) : cutV us none (some (n : Int)) = us.take n := by
  unfold cutV
  rw [HT.sIx_none, HT.sIx_nat, List.drop_zero, Nat.sub_zero]
  by_cases c : n ≤ us.length
  · rw [Nat.min_eq_left c]
  · rw [Nat.min_eq_right (by omega), List.take_length, List.take_of_length_le (by omega)]
theorem eqI {H : Hp} {n : Nat} {i : Int} : Eqv (n + 1) H (.int i) (.int i) := .inl (.inr (.inl ⟨i, rfl, rfl⟩))
theorem eqPairs {H : Hp} {n : Nat} {a b : Addr} {us vs : List V} {rs : List (Nat × Nat)} (ea : H a = some (.tup us)) (eb : H b = some (.tup vs)) (la : LV (FgV H) us rs) (lb : LV (FgV H) vs rs) (ln : rs.length ≤ 100000) : Eqv (n + 3) H (.ref a) (.ref b) := by
  refine .inr ⟨a, b, us, vs, rfl, rfl, ea, eb, by rw [la.1, lb.1], by rw [la.1]; exact ln, fun i x y hx hy => ?_⟩
  obtain ⟨r, er, c, rfl, ec⟩ := la.at hx
  obtain ⟨r2, er2, d, rfl, ed⟩ := lb.at hy
  rw [er] at er2
  have er2 := Option.some.inj er2
  subst er2
  refine .inr ⟨c, d, _, _, rfl, rfl, ec, ed, rfl, by show 2 ≤ _; omega, fun j u v hu hv => ?_⟩
  match j, hu, hv with
  | 0, hu, hv =>
    rw [← Option.some.inj hu, ← Option.some.inj hv]; exact eqI
  | 1, hu, hv =>
    rw [← Option.some.inj hu, ← Option.some.inj hv]; exact eqI
  | j + 2, hu, _ => cases hu
theorem eqNet {H : Hp} {p q t s : Addr} {n : Nat} {us vs : List V} {rs : List (Nat × Nat × Nat)} (h1 : H p = some (.tup [nV n, .ref t])) (h2 : H t = some (.tup us)) (h3 : LV (ArcV H) us rs) (g1 : H q = some (.tup [nV n, .ref s])) (g2 : H s = some (.tup vs)) (g3 : LV (ArcV H) vs rs) (ln : rs.length ≤ 100000) : Eqv 4 H (.ref p) (.ref q) := by
  refine .inr ⟨p, q, _, _, rfl, rfl, h1, g1, rfl, by show 2 ≤ _; omega, fun i x y hx hy => ?_⟩
  match i, hx, hy with
  | 0, hx, hy =>
    rw [← Option.some.inj hx, ← Option.some.inj hy]; exact eqI
  | 1, hx, hy =>
    rw [← Option.some.inj hx, ← Option.some.inj hy]
    refine .inr ⟨t, s, us, vs, rfl, rfl, h2, g2, by rw [h3.1, g3.1], by rw [h3.1]; exact ln, fun i x y hx hy => ?_⟩
    obtain ⟨r, er, c, rfl, ec⟩ := h3.at hx
    obtain ⟨r2, er2, d, rfl, ed⟩ := g3.at hy
    rw [er] at er2
    have er2 := Option.some.inj er2
    subst er2
    refine .inr ⟨c, d, _, _, rfl, rfl, ec, ed, rfl, by show 3 ≤ _; omega, fun j u v hu hv => ?_⟩
    match j, hu, hv with
    | 0, hu, hv =>
      rw [← Option.some.inj hu, ← Option.some.inj hv]; exact eqI
    | 1, hu, hv =>
      rw [← Option.some.inj hu, ← Option.some.inj hv]; exact eqI
    | 2, hu, hv =>
      rw [← Option.some.inj hu, ← Option.some.inj hv]; exact eqI
    | j + 3, hu, _ => cases hu
  | i + 2, hx, _ => cases hx
end Vf

set_option Elab.async false
set_option linter.all false
set_option maxRecDepth 100000
set_option maxHeartbeats 4000000
namespace Vf
open PySem PySem.Spec PyProof.Rows L2 TL LamX
/-! ### a lambda with one parameter -/
/-- one local, the parameter p, at the maker's slot ip; all else captured or global -/
structure LamP (sc scope : Scope) (N : List Str) (p : Str) (ip : Nat) : Prop where
  kind : scope.kind = .function
  co : scope.isCoroutine = false
  gen : scope.isGenerator = false
  nocell : ∀ y ∈ scope.names, y.2 ≠ .cell
  loc : ∀ y ∈ scope.names, y.2 = .local → y.1 = p
  par : scope.names.lookup p = some .local
  free : ∀ y ∈ scope.names, y.2 = .free → sc.names.lookup y.1 = some .cell ∨ sc.names.lookup y.1 = some .free
  nd : N.Nodup
  at_ : N[ip]? = some p
theorem LamP.has {X : Cx} {scope : Scope} {N : List Str} {p : Str} {ip : Nat} (L : LamP X.env.scope scope N p ip) (ok : X.Ok) : ∀ y ∈ scope.names, y.2 = .free → ∃ c, X.env.cells.lookup y.1 = some c := fun y hy e =>
  (L.free y hy e).elim (fun k => ok.has _ (.inl k)) (fun k => ok.has _ (.inr k))
def lamPB (sc scope : Scope) (N : List Str) (p : Str) (ip : Nat) : Bool :=
  decide (scope.kind = .function) && (!scope.isCoroutine && (!scope.isGenerator && (decide (scope.names.lookup p = some .local) && (decide (N[ip]? = some p) && (decide N.Nodup &&
    scope.names.all fun y => !decide (y.2 = .cell) && ((!decide (y.2 = .local) || decide (y.1 = p)) && (!decide (y.2 = .free) || (decide (sc.names.lookup y.1 = some .cell) || decide (sc.names.lookup y.1 = some .free)))))))))
theorem lamP_by {sc scope : Scope} {N : List Str} {p : Str} {ip : Nat} (h : lamPB sc scope N p ip = true) : LamP sc scope N p ip := by
  unfold lamPB at h
  simp only [Bool.and_eq_true, Bool.or_eq_true, Bool.not_eq_true', decide_eq_true_eq, decide_eq_false_iff_not, List.all_eq_true] at h
  obtain ⟨h1, h2, h3, h4, h5, h6, h7⟩ := h
  exact { kind := h1, co := h2, gen := h3, nocell := fun y hy => (h7 y hy).1, loc := fun y hy e => (h7 y hy).2.1.resolve_left (fun z => z e), par := h4,
          free := fun y hy e => (h7 y hy).2.2.resolve_left (fun z => z e), nd := h6, at_ := h5 }
section
variable {X : Cx} {pins : List (Addr × Obj)} {σ : L2.St} {H HZ : Hp} {s s1 : Shared}
/-- the body's start: the parameter's slot holds the argument -/
theorem lam_startP {A : Around} {outer : List Env} {E : XK} {scope : Scope} {f c' : Addr} {h₁ : Heap} {tk : Nat} {p : Str} {ip : Nat} {v : V} {u : Value} (I : Inv X pins σ H s) (L : LamP X.env.scope scope X.N p ip) (ru : RelV v u) (e0 : Env0 X.prog X.w X.K X.mg X.base A outer s1 HZ) (hd : A.handled = none)
    {fs : List Addr} (un : Un fs [] H HZ s.heap s1.heap) (hns : h₁.Ns s1.heap.objs.size fun y => ([(p, u)] : List (Str × Value)).reverse.lookup y) (kp : ∀ b o, s1.heap.get? b = some o → h₁.get? b = some o) :
    Inv (lamCx X A outer s1 HZ E scope f c') [] (σ.set ip (some v)) HZ { s1 with heap := h₁, toks := tk } := by
  have hfree := L.has I.ok
  have up : ∀ {y c}, (cloFrom X.env.cells scope.names []).lookup y = some c → X.env.cells.lookup y = some c := fun {y c} e => by
    rcases cloFrom_mem (PySem.mem_of_lookup e) with hm | ⟨h1, h2⟩
    · cases hm
    · obtain ⟨c1, hc⟩ := hfree _ h1 rfl
      have hc : X.env.cells.lookup y = some c1 := hc
      have e2 : c = c1 := by rw [h2, hc]; rfl
      rw [e2]; exact hc
  have look : ∀ {y}, scope.names.lookup y = some .free → ∃ c, (cloFrom X.env.cells scope.names []).lookup y = some c := fun {y} hl =>
    mem_lookup (cloFrom_has (cells := X.env.cells) (acc := []) (show (y, NameKind.free) ∈ scope.names from PySem.mem_of_lookup hl))
  have cellK : ∀ {c : Addr} {v : Option Value}, H c = none → s.heap.IsCell c v → h₁.IsCell c v := fun {c v} n ⟨o, ho, hd⟩ => by
    obtain ⟨sl, q⟩ := un.any ho n (by simp)
    exact ⟨_, kp _ _ q, hd⟩
  have noA : ∀ b : Addr, b ∉ (lamCx X A outer s1 HZ E scope f c').ex := fun b z => absurd (show b ∈ ([] : List Addr) from z) (by simp)
  refine ⟨⟨e0.mod, L.kind, rfl, rfl, Nat.le_refl _, fun y z c e1 e2 => I.ok.inj y z c (up e1) (up e2), fun y hy => ?_, fun y c z _ => ?_, fun _ => hd, Around.frames_deeper e0.frames, .inr ⟨rfl, rfl⟩, fun b z => absurd z (noA b), e0.bs, e0.bsz, fun b _ _ => noA b,
      fun b z => absurd z (noA b), e0.funs, e0.frf⟩,
    rfl, e0.bare, Un.kept kp, ⟨_, hns, fun i y x e1 e2 e3 => ?_⟩, fun y c e => ?_, e0.hok.fresh (Nat.le_refl _), fun y c e => ?_, fun q hq => absurd (show q ∈ ([] : List (Addr × Obj)) ++ [] from hq) (by simp), e0.hok.kept kp, by rw [List.length_set]; exact I.len⟩
  · have hy : scope.names.lookup y = some .cell ∨ scope.names.lookup y = some .free := hy
    rcases hy with hy | hy
    · exact absurd rfl (L.nocell _ (PySem.mem_of_lookup hy))
    · exact look hy
  · cases (show false = true from z)
  · have e1 : X.N[i]? = some y := e1
    have e3 : Vis scope y := e3
    by_cases hi : i = ip
    · subst hi
      have ey : y = p := Option.some.inj (e1.symm.trans L.at_)
      subst ey
      rw [List.getElem?_set, if_pos rfl] at e2
      have ex : x = v := by
        split at e2
        · exact (Option.some.inj (Option.some.inj e2)).symm
        · cases e2
      subst ex
      exact ⟨u, ru, .inl ⟨L.par, by simp⟩⟩
    · have ny : y ≠ p := fun z => by
        subst z
        have l1 := (List.getElem?_eq_some_iff.mp e1)
        have l2 := (List.getElem?_eq_some_iff.mp L.at_)
        obtain ⟨a1, b1⟩ := l1
        obtain ⟨a2, b2⟩ := l2
        rcases Nat.lt_or_gt_of_ne hi with c | c
        · exact List.pairwise_iff_getElem.mp L.nd i ip a1 a2 c (b1.trans b2.symm)
        · exact List.pairwise_iff_getElem.mp L.nd ip i a2 a1 c (b2.trans b1.symm)
      rw [List.getElem?_set, if_neg (fun z => hi z.symm)] at e2
      rcases e3 with k | k | k
      · exact absurd (L.loc _ (PySem.mem_of_lookup k) rfl) ny
      · exact absurd rfl (L.nocell _ (PySem.mem_of_lookup k))
      · obtain ⟨m, hn, hl⟩ := I.loc
        have hvis : Vis X.env.scope y := (L.free _ (PySem.mem_of_lookup k) rfl).elim (fun k => .inr (.inl k)) (fun k => .inr (.inr k))
        obtain ⟨w', r, q⟩ := hl i y x e1 e2 hvis
        obtain ⟨c2, h2⟩ := look k
        refine ⟨w', r, .inr ⟨.inr k, c2, h2, ?_⟩⟩
        have c1 := up h2
        rcases q with ⟨k', _⟩ | ⟨_, c3, e', z⟩
        · have k' : X.env.scope.names.lookup y = some .local := k'
          rcases L.free _ (PySem.mem_of_lookup k) rfl with k2 | k2 <;> rw [show X.env.scope.names.lookup y = _ from k2] at k' <;> cases k'
        · rw [c1] at e'
          cases e'
          exact cellK (I.freeC y _ c1) z
  · obtain ⟨w', z⟩ := I.cell y c (up e)
    exact ⟨w', cellK (I.freeC y c (up e)) z⟩
  · obtain ⟨v, o, ho, hd⟩ := I.cell y c (up e)
    exact un.free c o ho (I.freeC y c (up e)) (by simp)
/-- the lambda at f, as it stands for the frames fs at s1, H1: called, it reads its body -/
structure Lives (P : Program) (w : World) (K : PySem.W.Frag) (mg : Str → Option Value) (base : Heap) (k : Nat) (f c' : Addr) (q : Str) (tl : V → Hp → VK → Prop) (fs : List Addr) (s1 : Shared) (H1 : Hp) : Prop where
  obj : ∃ (nm q' : Str) (pa : Arguments) (body : Expr) (sc : Scope) (cl : List (Str × Addr)) (pm ctv : Value), s1.heap.get? f = some (PySem.W.kla_obj nm q' pa body sc cl pm c' ctv)
  fn : H1 f = none
  fr : f ∉ fs
  act : ∀ (A' : Around) (outer' : List Env) (s' : Shared) (H' : Hp) (u : Value) (y : V) (Q : VK), Room (k + 1) A' → Env0 P w K mg base A' outer' s' H' → (∀ b ∈ fs, b ∈ frs outer') → f ∉ frs outer' → Un (frs outer') [] H1 H' s1.heap s'.heap → RelV y u → H' c' = some (CodeO c' q) → tl y H' Q →
    codeAny (model P w) A' (.call (.ref f) ⟨[u], []⟩) (CR (L2.CX P w) outer' P w H' s' Q C8.E0) s'
theorem Lives.step {P : Program} {w : World} {K : PySem.W.Frag} {mg : Str → Option Value} {base : Heap} {k : Nat} {f c' : Addr} {q : Str} {tl : V → Hp → VK → Prop} {fs fs2 : List Addr} {s1 s2 : Shared} {H1 H2 : Hp} (L : Lives P w K mg base k f c' q tl fs s1 H1) (sub : ∀ b ∈ fs, b ∈ fs2) (nf : f ∉ fs2) (un : Un fs2 [] H1 H2 s1.heap s2.heap) :
    Lives P w K mg base k f c' q tl fs2 s2 H2 := by
  obtain ⟨nm, q', pa, body, sc, cl, pm, ctv, ho⟩ := L.obj
  refine ⟨⟨nm, q', pa, body, sc, cl, pm, ctv, un.keep f _ ho L.fn nf (by simp)⟩, un.free f _ ho L.fn (by simp), nf, fun A' outer' s' H' u y Q hr e0 hs hn un2 rv hc ht => ?_⟩
  exact L.act A' outer' s' H' u y Q hr e0 (fun b hb => hs b (sub b hb)) hn ((un.mono hs (fun _ h => h)).trans un2) rv hc ht
theorem Lives.imp {P : Program} {w : World} {K : PySem.W.Frag} {mg : Str → Option Value} {base : Heap} {k : Nat} {f c' : Addr} {q : Str} {tl tl' : V → Hp → VK → Prop} {fs : List Addr} {s1 : Shared} {H1 : Hp} (L : Lives P w K mg base k f c' q tl fs s1 H1) (h : ∀ y H Q, tl' y H Q → tl y H Q) :
    Lives P w K mg base k f c' q tl' fs s1 H1 := ⟨L.obj, L.fn, L.fr, fun A' outer' s' H' u y Q hr e0 hs hn un rv hc ht => L.act A' outer' s' H' u y Q hr e0 hs hn un rv hc (h _ _ _ ht)⟩
/-- just made, in X -/
theorem lam_lives {scope : Scope} {f c' : Addr} {pm ctv : Value} {params : Arguments} {body : Expr} {k ip : Nat} {p : Str} {tb : TE} (I : Inv X pins σ H s) (L : LamP X.env.scope scope X.N p ip) (hf : s.heap.get? f = some (PySem.W.kla_obj "<lambda>" (X.env.qual ++ "<lambda>") params body scope (cloFrom X.env.cells scope.names []) pm c' ctv)) (hfn : H f = none) (hfr : f ∉ frs X.stack)
    (hbind : ∀ u : Value, bindArgs (PySem.W.kla_fn "<lambda>" (X.env.qual ++ "<lambda>") params body scope (cloFrom X.env.cells scope.names []) pm (.ref c') ctv) ⟨[u], []⟩ = pure [(p, u)])
    (hbody : ∀ (A : Around) (outer : List Env) (s : Shared) (H : Hp), Room k (A.deeper (lamEnv X scope s.heap.objs.size f c')) → PE (lamCx X A outer s H C8.E0 scope f c') body tb) :
    Lives X.prog X.w X.K X.mg X.base k f c' (X.env.qual ++ "<lambda>") (fun y H' Q' => tb (σ.set ip (some y)) H' Q') (frs X.stack) s H := by
  refine ⟨⟨_, _, _, _, _, _, _, _, hf⟩, hfn, hfr, fun A' outer' s2 H2 u x Q hr e0 _ hn un ru hc q => ?_⟩
  have of2 := un.keep f _ hf hfn hn (by simp)
  obtain ⟨⟨oc, ws, t, hoc, hdc, hvc⟩, _, _⟩ := e0.hok c' _ hc
  refine PySem.W.kla_callFunE hr.depth of2 rfl L.co L.gen rfl ⟨c', oc, ws, t, rfl, hoc, hdc, hvc⟩ ?_
  rw [hbind]
  have lim : s2.heap.NoLimit := e0.mod.nolimit.keeps fun b o e => (e0.bs b o e).1
  refine wpAny_pure (wpAny_newFunctionEnv (fun y hy => L.nocell y hy) (fun y hy => by rw [List.mem_singleton.mp hy]; exact L.par) (fun h₁ hns hsb => ⟨lim.fresh _ hsb, ?_⟩) L.kind)
  show codeAny _ _ (.expr body (lamEnv X scope s2.heap.objs.size f c')) _ _
  have kp : ∀ b o, s2.heap.get? b = some o → h₁.get? b = some o := fun b o e => hsb.extBut b o (Nat.ne_of_lt (Heap.lt_size e)) (Heap.get?_push_of_some _ e)
  have J : Inv (lamCx X A' outer' s2 H2 C8.E0 scope f c') [] (σ.set ip (some x)) H2 { s2 with heap := h₁, toks := s2.toks + ([(p, u)] : List (Str × Value)).length } :=
    lam_startP I L ru e0 hr.hd un hns kp
  refine PySem.W.kla_codeExpr (wpAny_mono ((hbody _ _ s2 H2 (hr.deeper _)).run [] _ _ H2 Q J q) (fun v s' hq => ?_) fun e s' hq => hq)
  obtain ⟨w', H', J', rv, q⟩ := hq
  exact ⟨w', H', J'.os, J'.bare, J'.base, J'.hok, rv, q⟩
end
/-- in a def's context, entered where the lambda lives -/
theorem Lives.at {CXg : CXT} {Eg : XK} {P : Program} {w : World} {K : PySem.W.Frag} {mg : Str → Option Value} {base : Heap} {Ng : List Str} {qg : Str} {sg : Scope} {g : Addr} {cdg : Value} {A : Around} {outer : List Env} {s sZ : Shared} {H HZ : Hp} {pn : List (Addr × Obj)} {xe : Value → Shared → Prop} {pinsZ : List (Addr × Obj)} {σZ : L2.St} {k : Nat} {f c' : Addr} {q : Str} {tl : V → Hp → VK → Prop}
    (L : Lives P w K mg base k f c' q tl (frs outer) s H) (I : Inv ((cxOf CXg P w K mg base Ng qg sg g cdg A outer s H Eg).tr pn xe) pinsZ σZ HZ sZ) :
    Lives P w K mg base k f c' q tl (frs (envOfC qg sg s.heap.objs.size g cdg :: outer)) sZ HZ := by
  have sub : ∀ b ∈ frs outer, b ∈ frs (envOfC qg sg s.heap.objs.size g cdg :: outer) := fun b hb => by
    unfold frs at hb ⊢
    obtain ⟨e, he, h2⟩ := List.mem_filterMap.mp hb
    exact List.mem_filterMap.mpr ⟨e, List.mem_cons_of_mem _ he, h2⟩
  have nf : f ∉ frs (envOfC qg sg s.heap.objs.size g cdg :: outer) := fun hb => by
    rcases List.mem_cons.mp (I.stkSub f hb) with e | e
    · obtain ⟨nm, q', pa, body, sc, cl, pm, ctv, ho⟩ := L.obj
      have h1 := Heap.lt_size ho
      have e : f = s.heap.objs.size := e
      rw [e] at h1
      exact Nat.lt_irrefl _ h1
    · exact L.fr e
  exact L.step sub nf (Un.mono (show Un (frs outer) [] H HZ s.heap sZ.heap from I.base) sub (fun _ h => h))
def tActS (i : Nat) (f c' : Addr) (q : Str) (tl : V → Hp → VK → Prop) (ta : TA) : TE := fun σ H Q => σ[i]? = some (some (.ref f)) ∧ ta σ H fun xs H1 => ∃ x, xs = [x] ∧ H1 c' = some (CodeO c' q) ∧ tl x H1 Q
/-- a(e), in the def that got the lambda -/
theorem pe_actS {CXg : CXT} {Eg : XK} {P : Program} {w : World} {K : PySem.W.Frag} {mg : Str → Option Value} {base : Heap} {Ng : List Str} {qg : Str} {sg : Scope} {g f c' : Addr} {cdg : Value} {A : Around} {outer : List Env} {s : Shared} {H : Hp} {k i : Nat} {a q : Str} {pn : List (Addr × Obj)} {xe : Value → Shared → Prop} {tl : V → Hp → VK → Prop} {ta : TA} {e : Expr} {p1 p2 : Pos}
    (Lv : Lives P w K mg base k f c' q tl (frs outer) s H) (hr : Room (k + 1) (A.deeper (envOfC qg sg s.heap.objs.size g cdg)))
    (hN : Ng[i]? = some a) (hv : Vis sg a) (ha : PA ((cxOf CXg P w K mg base Ng qg sg g cdg A outer s H Eg).tr pn xe) [e] ta)
    (hd : (a == ("__debug__" : Str)) = false := by decide) (hcd : (a == ("__classdict__" : Str)) = false := by decide)
    (he : starEach [e] ((cxOf CXg P w K mg base Ng qg sg g cdg A outer s H Eg).tr pn xe).env = (false, eval e ((cxOf CXg P w K mg base Ng qg sg g cdg A outer s H Eg).tr pn xe).env) :: starEach [] ((cxOf CXg P w K mg base Ng qg sg g cdg A outer s H Eg).tr pn xe).env := by rfl)
    (hpl : (backTo p2 (starEach [] ((cxOf CXg P w K mg base Ng qg sg g cdg A outer s H Eg).tr pn xe).env)).any (·.1) = false := by rfl) :
    PE ((cxOf CXg P w K mg base Ng qg sg g cdg A outer s H Eg).tr pn xe) (.Call (.Name a p1) [e] [] p2) (tActS i f c' q tl ta) := by
  refine ⟨fun pinsZ sZ σZ HZ Q IZ h => ?_⟩
  obtain ⟨hs, ht⟩ := h
  refine wpAny_Call_Name_kw (thn ((pe_var (pos := p1) (i := i) hN hv hd hcd).run pinsZ sZ σZ HZ (fun v H1 => v = .ref f ∧ H1 = HZ) IZ ⟨.ref f, hs, rfl, rfl⟩) fun u s1 ⟨v, H1, I1, r1, q1⟩ => ?_)
  obtain ⟨ev, eH⟩ := q1
  subst ev
  rw [eH] at I1
  obtain rfl : u = Value.ref f := r1
  have fnAt : ∀ (σ' : L2.St) (H' : Hp) (s' : Shared), Inv ((cxOf CXg P w K mg base Ng qg sg g cdg A outer s H Eg).tr pn xe) pinsZ σ' H' s' → PySem.W.FnAt f s'.heap := fun σ' H' s' I' => by
    obtain ⟨nm, q', pa, body, sc, cl, pm, ctv, ho⟩ := (Lv.at I').obj
    exact ⟨_, _, _, _, ho⟩
  refine PySem.W.callWith_F (fnAt _ _ _ I1) (thn (ha.run p2 pinsZ s1 σZ HZ _ I1 ht) fun us s2 ⟨vs, H2, I2, r2, x, ex, hc, q⟩ => ⟨fnAt _ _ _ I2, ?_⟩) he hpl
  subst ex
  obtain ⟨u, rfl, ru⟩ := vals1 r2
  have L2' := Lv.at I2
  have rc := L2'.act (A.deeper (envOfC qg sg s.heap.objs.size g cdg)) (envOfC qg sg s.heap.objs.size g cdg :: outer) s2 H2 u x Q hr I2.env0 (fun _ h => h) L2'.fr Un.refl ru hc q
  have hx : Passes (L2.CX P w) ((cxOf CXg P w K mg base Ng qg sg g cdg A outer s H Eg).tr pn xe) C8.E0 := passes_call LamX.takes0 (fun _ _ _ _ h => h)
  refine wpAny_call (codeAny_mono rc fun r s' hq => ?_)
  cases r with
  | error e => exact hx pinsZ σZ H2 s2 e s' I2 hq
  | ok fl =>
    cases fl with
    | ret u => exact I2.after hq
    | next => exact False.elim hq
    | brk => exact False.elim hq
    | cont => exact False.elim hq
/-- the def that calls what it got as its second argument, or hands it on; TT: what it makes of the lambda's reading -/
def GivesS (P : Program) (w : World) (K : PySem.W.Frag) (mg : Str → Option Value) (base : Heap) (k j : Nat) (Ng : List Str) (x : Str) (sg : Scope) (g : Addr) (cdg : Value) (bg : List Stmt) (q : Str) (TT : (V → Hp → VK → Prop) → V → Hp → VK → Prop) : Prop :=
  ∀ (A : Around) (outer : List Env) (s : Shared) (H : Hp) (f c' : Addr) (v0 : V) (Q : VK) (tl : V → Hp → VK → Prop), Room (k + j + 1) (A.deeper (envOfC x sg s.heap.objs.size g cdg)) →
    Lives P w K mg base k f c' q tl (frs outer) s H → H c' = some (CodeO c' q) → TT tl v0 H Q →
    ∃ t, PSs (cxOf C8.CX0 P w K mg base Ng x sg g cdg A outer s H C8.E0).nox bg t ∧ t { nx := fun _ H' => Q .non H', rt := Q } (L2.start Ng [v0, .ref f]) H
def tLamS (T : List (Addr × Str)) (TT : (V → Hp → VK → Prop) → V → Hp → VK → Prop) (ip : Nat) (t0 : TE) (t : TE) : TE := fun σ H Q => t0 σ H fun v0 H0 => Tabs T H0 ∧ ∀ H1, ExtN H0 H1 → Tabs T H1 → TT (fun y H' Q' => t (σ.set ip (some y)) H' Q') v0 H1 Q
def tPassS (i : Nat) (f c' : Addr) (q : Str) (tl : V → Hp → VK → Prop) (TT : (V → Hp → VK → Prop) → V → Hp → VK → Prop) (t0 : TE) : TE := fun σ H Q => t0 σ H fun v0 H0 => σ[i]? = some (some (.ref f)) ∧ H0 c' = some (CodeO c' q) ∧ TT tl v0 H0 Q
section
variable {X : Cx}
/-- x(e0, lambda p: body) -/
theorem pe_lamcallS {T : List (Addr × Str)} {TT : (V → Hp → VK → Prop) → V → Hp → VK → Prop} {x a0 a pr : Str} {g c P : Addr} {k j ip : Nat} {pg : Arguments} {bg : List Stmt} {sg : Scope} {dV kV doc pm cdv ct oc : Value} {an od : Option Addr} {osl : Array (Option Value)} {Ng : List Str}
    {params : Arguments} {body e0 : Expr} {scope : Scope} {t0 : TE} {t : TE} {p lpos pos : Pos} (hg : Gl X x) (hm : X.mg x = some (.ref g)) (hk : PySem.W.keepIn X.K (.ref g) = true)
    (lk : X.K.lookup g = some ⟨oc, od, .func (PySem.W.fnOf x x pg bg sg dV kV doc pm an cdv ct), osl⟩) (hcg : PySem.W.codeIn X.K cdv x = true) (hb : L2.Binds X.K (PySem.W.fnOf x x pg bg sg dV kV doc pm an cdv ct) [a0, a] []) (Sg : FnScope Ng [a0, a] sg)
    (hG : GivesS X.prog X.w X.K X.mg X.base k j Ng x sg g cdv bg (X.env.qual ++ "<lambda>") TT) (h0 : PE X e0 t0)
    (TB : TabB X.base X.mg c P) (hcode : X.env.code = .ref c) (hmT : (P, X.env.qual ++ "<lambda>") ∈ T) (hu : ∀ p ∈ T, p.1 = P → p.2 = X.env.qual ++ "<lambda>") (hr : Room (k + j + 2) X.A) (L : LamP X.env.scope scope X.N pr ip) (hdef : defaultsOf params X.env = ([], []))
    (hbind : ∀ (q : Str) (cl : List (Str × Addr)) (pm cv ctv u : Value), bindArgs (PySem.W.kla_fn "<lambda>" q params body scope cl pm cv ctv) ⟨[u], []⟩ = pure [(pr, u)])
    (hbody : ∀ (A : Around) (outer : List Env) (s : Shared) (H : Hp) (f c' : Addr), Room k (A.deeper (lamEnv X scope s.heap.objs.size f c')) → PE (lamCx X A outer s H C8.E0 scope f c') body t)
    (hdb : (x == ("__debug__" : Str)) = false := by decide)
    (he : starEach [e0, .Lambda params body scope lpos] X.env = (false, eval e0 X.env) :: starEach [.Lambda params body scope lpos] X.env := by rfl) :
    PE X (.Call (.Name x p) [e0, .Lambda params body scope lpos] [] pos) (tLamS T TT ip t0 t) := by
  refine ⟨fun pins s σ H Q I h => ?_⟩
  refine wpAny_Call_Name_kw (ld_glob I hg hm ?_ hdb)
  refine PySem.W.callWith_K (h₀ := X.base) I.ok.mod.kin hk ?_ he (by rfl)
  rw [he]
  show wpAny _ _ (spliced ((false, eval e0 X.env) :: (false, eval (.Lambda params body scope lpos) X.env) :: backTo pos (starEach [] X.env))) _ _ s
  refine Calls.spliced_cons (thn (h0.run pins s σ H _ I h) fun u0 s0 ⟨v0, H0, I0, r0, hT, h⟩ => ?_)
  refine Calls.spliced_cons (lam_make2 I0 TB hcode hmT hu hT hdef (L.has I0.ok) fun f c' pm' ctv H1 s' I1 eN T1 hf hfn hfr hco => ?_)
  refine Calls.spliced_nil ⟨I1.kIn, ?_⟩
  have rc : codeAny (model X.prog X.w) X.A (.call (.ref g) ⟨[u0, .ref f], []⟩) (CR C8.CX0 X.stack X.prog X.w H1 s' Q C8.E0) s' := by
    refine run_ofS (N := Ng) (ps := [a0, a]) (us := [u0, .ref f]) (vs := [v0, .ref f]) lk hcg Sg hr I1.env0 (hb s' [u0, .ref f] I1.kIn rfl) (.cons r0 (.cons rfl .nil)) rfl fun hr' => ?_
    have Lv := lam_lives (k := k) I1 L hf hfn hfr (fun u => hbind _ _ _ _ _ u) (fun A outer s H hr2 => hbody A outer s H f c' hr2)
    obtain ⟨t', ht', hq'⟩ := hG X.A X.stack s' H1 f c' v0 Q _ hr' Lv hco (h H1 eN T1)
    exact ⟨t', ht'.nox, hq'⟩
  refine wpAny_call (codeAny_mono rc fun r s2 hq => ?_)
  cases r with
  | error e => exact (show False from hq).elim
  | ok fl =>
    cases fl with
    | ret u => exact I1.after hq
    | next => exact False.elim hq
    | brk => exact False.elim hq
    | cont => exact False.elim hq
end
/-- x(e0, a): the lambda handed on -/
theorem pe_passS {CXg : CXT} {Eg : XK} {P : Program} {w : World} {K : PySem.W.Frag} {mg : Str → Option Value} {base : Heap} {Nz : List Str} {qz : Str} {sz : Scope} {z f c' : Addr} {cdz : Value} {A : Around} {outer : List Env} {s : Shared} {H : Hp} {k j i : Nat} {q : Str} {pn : List (Addr × Obj)} {xe : Value → Shared → Prop} {tl : V → Hp → VK → Prop} {TT : (V → Hp → VK → Prop) → V → Hp → VK → Prop} {x a0 a1 a : Str} {g : Addr}
    {pg : Arguments} {bg : List Stmt} {sg : Scope} {dV kV doc pm cdv ct oc : Value} {an od : Option Addr} {osl : Array (Option Value)} {Ng : List Str} {e0 : Expr} {t0 : TE} {p p1 pos : Pos}
    (Lv : Lives P w K mg base k f c' q tl (frs outer) s H) (hr : Room (k + j + 2) (A.deeper (envOfC qz sz s.heap.objs.size z cdz)))
    (hg : Gl ((cxOf CXg P w K mg base Nz qz sz z cdz A outer s H Eg).tr pn xe) x) (hm : mg x = some (.ref g)) (hk : PySem.W.keepIn K (.ref g) = true)
    (lk : K.lookup g = some ⟨oc, od, .func (PySem.W.fnOf x x pg bg sg dV kV doc pm an cdv ct), osl⟩) (hcg : PySem.W.codeIn K cdv x = true) (hb : L2.Binds K (PySem.W.fnOf x x pg bg sg dV kV doc pm an cdv ct) [a0, a1] []) (Sg : FnScope Ng [a0, a1] sg)
    (hG : GivesS P w K mg base k j Ng x sg g cdv bg q TT) (h0 : PE ((cxOf CXg P w K mg base Nz qz sz z cdz A outer s H Eg).tr pn xe) e0 t0)
    (hN : Nz[i]? = some a) (hv : Vis sz a)
    (hd : (a == ("__debug__" : Str)) = false := by decide) (hcd : (a == ("__classdict__" : Str)) = false := by decide) (hdb : (x == ("__debug__" : Str)) = false := by decide)
    (he : starEach [e0, .Name a p1] ((cxOf CXg P w K mg base Nz qz sz z cdz A outer s H Eg).tr pn xe).env = (false, eval e0 ((cxOf CXg P w K mg base Nz qz sz z cdz A outer s H Eg).tr pn xe).env) :: starEach [.Name a p1] ((cxOf CXg P w K mg base Nz qz sz z cdz A outer s H Eg).tr pn xe).env := by rfl) :
    PE ((cxOf CXg P w K mg base Nz qz sz z cdz A outer s H Eg).tr pn xe) (.Call (.Name x p) [e0, .Name a p1] [] pos) (tPassS i f c' q tl TT t0) := by
  refine ⟨fun pinsZ sZ σZ HZ Q IZ h => ?_⟩
  refine wpAny_Call_Name_kw (ld_glob IZ hg hm ?_ hdb)
  refine PySem.W.callWith_K (h₀ := base) IZ.ok.mod.kin hk ?_ he (by rfl)
  rw [he]
  show wpAny _ _ (spliced ((false, eval e0 ((cxOf CXg P w K mg base Nz qz sz z cdz A outer s H Eg).tr pn xe).env) :: (false, eval (.Name a p1) ((cxOf CXg P w K mg base Nz qz sz z cdz A outer s H Eg).tr pn xe).env) :: backTo pos (starEach [] ((cxOf CXg P w K mg base Nz qz sz z cdz A outer s H Eg).tr pn xe).env))) _ _ sZ
  refine Calls.spliced_cons (thn (h0.run pinsZ sZ σZ HZ _ IZ h) fun u0 s0 ⟨v0, H0, I0, r0, hs, hc, ht⟩ => ?_)
  refine Calls.spliced_cons (thn ((pe_var (pos := p1) (i := i) hN hv hd hcd).run pinsZ s0 σZ H0 (fun v H1 => v = .ref f ∧ H1 = H0) I0 ⟨.ref f, hs, rfl, rfl⟩) fun u s1 ⟨v, H1, I1, r1, q1⟩ => ?_)
  obtain ⟨ev, eH⟩ := q1
  subst ev
  rw [eH] at I1
  obtain rfl : u = Value.ref f := r1
  refine Calls.spliced_nil ⟨I1.kIn, ?_⟩
  have rc : codeAny (model P w) (A.deeper (envOfC qz sz s.heap.objs.size z cdz)) (.call (.ref g) ⟨[u0, .ref f], []⟩) (CR C8.CX0 (envOfC qz sz s.heap.objs.size z cdz :: outer) P w H0 s1 Q C8.E0) s1 := by
    refine run_ofS (N := Ng) (ps := [a0, a1]) (us := [u0, .ref f]) (vs := [v0, .ref f]) lk hcg Sg hr I1.env0 (hb s1 [u0, .ref f] I1.kIn rfl) (.cons r0 (.cons rfl .nil)) rfl fun hr' => ?_
    obtain ⟨t', ht', hq'⟩ := hG (A.deeper (envOfC qz sz s.heap.objs.size z cdz)) (envOfC qz sz s.heap.objs.size z cdz :: outer) s1 H0 f c' v0 Q tl hr' (Lv.at I1) hc ht
    exact ⟨t', ht'.nox, hq'⟩
  refine wpAny_call (codeAny_mono rc fun r s2 hq => ?_)
  cases r with
  | error e => exact (show False from hq).elim
  | ok fl =>
    cases fl with
    | ret u => exact I1.after hq
    | next => exact False.elim hq
    | brk => exact False.elim hq
    | cont => exact False.elim hq
end Vf

set_option Elab.async false
set_option linter.all false
set_option maxRecDepth 100000
set_option maxHeartbeats 4000000
namespace Vf
open PySem PySem.Spec PyProof.Rows L2 TL
/-! ### the way back by the tails -/
def rv (g : Nat → Option Nat) : Nat → Nat → List Nat
  | 0, v => [v]
  | n + 1, v => match g v with
    | none => [v]
    | some u => v :: rv g n u
def Rw (g : Nat → Option Nat) (v : Nat) : List Nat := rv g v v
theorem rv_fuel {g : Nat → Option Nat} (dn : ∀ v u, g v = some u → u < v) : ∀ (n m v : Nat), v ≤ n → v ≤ m → rv g n v = rv g m v
  | 0, 0, v, _, _ => rfl
  | 0, m + 1, v, h, _ => by
    have : v = 0 := by omega
    subst this
    show [0] = match g 0 with | none => [0] | some u => 0 :: rv g m u
    cases e : g 0 with
    | none => rfl
    | some u => exact absurd (dn 0 u e) (Nat.not_lt_zero _)
  | n + 1, 0, v, _, h => by
    have : v = 0 := by omega
    subst this
    show (match g 0 with | none => [0] | some u => 0 :: rv g n u) = [0]
    cases e : g 0 with
    | none => rfl
    | some u => exact absurd (dn 0 u e) (Nat.not_lt_zero _)
  | n + 1, m + 1, v, h1, h2 => by
    show (match g v with | none => [v] | some u => v :: rv g n u) = match g v with | none => [v] | some u => v :: rv g m u
    cases e : g v with
    | none => rfl
    | some u =>
      have := dn v u e
      show v :: rv g n u = v :: rv g m u
      rw [rv_fuel dn n m u (by omega) (by omega)]
theorem Rw_none {g : Nat → Option Nat} {v : Nat} (e : g v = none) : Rw g v = [v] := by
  unfold Rw
  cases v with
  | zero => rfl
  | succ n =>
    show (match g (n + 1) with | none => [n + 1] | some u => (n + 1) :: rv g n u) = _
    rw [e]
theorem Rw_some {g : Nat → Option Nat} (dn : ∀ v u, g v = some u → u < v) {v u : Nat} (e : g v = some u) : Rw g v = v :: Rw g u := by
  have h := dn v u e
  unfold Rw
  cases v with
  | zero => omega
  | succ n =>
    show (match g (n + 1) with | none => [n + 1] | some u => (n + 1) :: rv g n u) = _
    rw [e]
    show (n + 1) :: rv g n u = _
    rw [rv_fuel dn n u u (by omega) (Nat.le_refl _)]
theorem Rw_head (g : Nat → Option Nat) (v : Nat) : ∃ r, Rw g v = v :: r := by
  unfold Rw
  cases v with
  | zero => exact ⟨[], rfl⟩
  | succ n =>
    show ∃ r, (match g (n + 1) with | none => [n + 1] | some u => (n + 1) :: rv g n u) = _
    cases g (n + 1) with
    | none => exact ⟨[], rfl⟩
    | some u => exact ⟨_, rfl⟩
theorem Rw_len {g : Nat → Option Nat} (dn : ∀ v u, g v = some u → u < v) : ∀ (n v : Nat), v ≤ n → (Rw g v).length ≤ v + 1
  | 0, v, h => by
    have : v = 0 := by omega
    subst this
    exact Nat.le_refl 1
  | n + 1, v, h => by
    cases e : g v with
    | none => rw [Rw_none e]; exact Nat.succ_le_succ (Nat.zero_le _)
    | some u =>
      have h2 := dn v u e
      have := Rw_len dn n u (by omega)
      rw [Rw_some dn e, List.length_cons]; omega
def zI (ns : List Nat) : List Int := ns.map fun x : Nat => (x : Int)
theorem zI_lt_cons {v : Nat} {a b : List Nat} (h : zI a < zI b) : zI (v :: a) < zI (v :: b) := List.Lex.cons h
theorem zI_lt_head {u v : Nat} {a b : List Nat} (h : u < v) : zI (u :: a) < zI (v :: b) := List.Lex.rel (Int.ofNat_lt.mpr h)
/-- not above -/
def LeI (a b : List Nat) : Prop := zI a < zI b ∨ a = b
theorem LeI.cons {v : Nat} {a b : List Nat} (h : LeI a b) : LeI (v :: a) (v :: b) := by
  rcases h with h | h
  · exact .inl (zI_lt_cons h)
  · exact .inr (by rw [h])
theorem LeI.head {u v : Nat} {a b : List Nat} (h : u < v) : LeI (u :: a) (v :: b) := .inl (zI_lt_head h)
theorem Bd.dn {Pr : Arc → Prop} {f g : Nat → Option Nat} (B : Bd Pr f g) (up : ∀ a, Pr a → a.1 < a.2.1) : ∀ v u, g v = some u → u < v := fun v u e => by
  by_cases hv : v = 0
  · subst hv; rw [B.z.2] at e; cases e
  · cases h : f v with
    | none => rw [(B.n v hv h).1] at e; cases e
    | some y =>
      obtain ⟨u', c, x, h1, h2, _⟩ := B.s v y hv h
      rw [e] at h1
      have := Option.some.inj h1
      subst this
      exact up _ h2
/-- one arc more: the pair of v is not above the pair by this arc -/
theorem best_arc {as : List Arc} {f g : Nat → Option Nat} (B : Bd (· ∈ as) f g) (up : ∀ a ∈ as, a.1 < a.2.1) {u v c x : Nat} (h : (u, v, c) ∈ as) (e : f u = some x) : ∃ y, f v = some y ∧ LeI (y :: Rw g v) ((x + c) :: v :: Rw g u) := by
  have huv : u < v := up _ h
  have hv : v ≠ 0 := by omega
  have dn := B.dn up
  obtain ⟨y, hy, le⟩ := B.le h e
  obtain ⟨u0, c0, x0, h1, h2, h3, h4, H⟩ := B.s v y hv hy
  obtain ⟨l1, l2⟩ := H u c x h e
  refine ⟨y, hy, ?_⟩
  rcases Nat.lt_or_ge y (x + c) with lt | ge
  · exact LeI.head lt
  · have ey : y = x + c := by omega
    have lu := l2 ey
    rw [ey]
    refine LeI.cons ?_
    rw [Rw_some dn h1]
    refine LeI.cons ?_
    rcases Nat.lt_or_ge u0 u with k | k
    · obtain ⟨r, er⟩ := Rw_head g u0
      obtain ⟨r2, er2⟩ := Rw_head g u
      rw [er, er2]
      exact LeI.head k
    · exact .inr (by rw [show u0 = u by omega])
theorem best_from {as : List Arc} {f g : Nat → Option Nat} (B : Bd (· ∈ as) f g) (up : ∀ a ∈ as, a.1 < a.2.1) {v y : Nat} (hv : v ≠ 0) (e : f v = some y) : ∃ u c x, (u, v, c) ∈ as ∧ f u = some x ∧ y :: Rw g v = (x + c) :: v :: Rw g u := by
  obtain ⟨u, c, x, h1, h2, h3, h4, _⟩ := B.s v y hv e
  exact ⟨u, c, x, h2, h3, by rw [h4, Rw_some (B.dn up) h1]⟩
theorem path_min {as : List Arc} {f g : Nat → Option Nat} (B : Bd (· ∈ as) f g) (up : ∀ a ∈ as, a.1 < a.2.1) {ns : List Nat} (h0 : ns.getD 0 0 = 0) : ∀ (k t : Nat), k < ns.length → totK as ns k = some t → ∃ y, f (ns.getD k 0) = some y ∧ LeI (y :: Rw g (ns.getD k 0)) (t :: (ns.take (k + 1)).reverse)
  | 0, t, hk, h => by
    have ht : (0 : Nat) = t := Option.some.inj h
    subst ht
    refine ⟨0, by rw [h0]; exact B.z.1, .inr ?_⟩
    cases ns with
    | nil => cases hk
    | cons a r =>
      have : a = 0 := h0
      subst this
      show 0 :: Rw g 0 = 0 :: [0]
      rw [Rw_none B.z.2]
  | k + 1, t, hk, h => by
    obtain ⟨x, c, e, hm, rfl⟩ := stepT_some h
    obtain ⟨y', e1, l1⟩ := path_min B up h0 k x (by omega) e
    have et : (ns.take (k + 1 + 1)).reverse = ns.getD (k + 1) 0 :: (ns.take (k + 1)).reverse := by
      rw [List.take_succ, List.getElem?_eq_getElem hk, List.reverse_append, List.getD_eq_getElem?_getD, List.getElem?_eq_getElem hk]; rfl
    rw [et]
    obtain ⟨y, e2, l2⟩ := best_arc B up hm e1
    refine ⟨y, e2, ?_⟩
    generalize ns.getD (k + 1) 0 = v at *
    generalize (ns.take (k + 1)).reverse = q at *
    have l3 : LeI ((y' + c) :: v :: Rw g (ns.getD k 0)) ((x + c) :: v :: q) := by
      rcases l1 with l | l
      · cases l with
        | rel r =>
          have r : (y' : Int) < (x : Int) := r
          exact LeI.head (by omega)
        | cons r => exact .inl (zI_lt_cons (zI_lt_cons r))
      · injection l with l4 l5
        rw [l4, l5]; exact .inr rfl
    rcases l2 with l2 | l2
    · rcases l3 with l3 | l3
      · exact .inl (List.lt_trans l2 l3)
      · rw [← l3]; exact .inl l2
    · rw [l2]; exact l3
theorem tot_bestR {as : List Arc} {f g : Nat → Option Nat} (B : Bd (· ∈ as) f g) (up : ∀ a ∈ as, a.1 < a.2.1) (pw : as.Pairwise fun a b => a.1 < b.1 ∨ a.1 = b.1 ∧ a.2.1 < b.2.1) :
    ∀ (n v : Nat), v ≤ n → v ≠ 0 → ∀ y, f v = some y → ∃ b, tot as (nodesOf b v) = some y ∧ (nodesOf b v).reverse = Rw g v
  | 0, v, h, hv, _, _ => absurd (Nat.le_zero.mp h) hv
  | n + 1, v, h, hv, y, e => by
    obtain ⟨u, c, x, h1, h2, h3, h4, _⟩ := B.s v y hv e
    have huv : u < v := up _ h2
    by_cases hu : u = 0
    · subst hu
      refine ⟨fun _ => false, ?_⟩
      rw [Rw_some (B.dn up) h1, Rw_none B.z.2]
      unfold nodesOf
      rw [mids_false]
      show tot as [0, v] = _ ∧ [0, v].reverse = [v, 0]
      rw [tot_two, B.z.1] at *
      have := Option.some.inj h3
      rw [stepT_of pw h2, h4, this]
      exact ⟨rfl, rfl⟩
    · obtain ⟨b, hb, hr⟩ := tot_bestR B up pw n u (by omega) hu x h3
      refine ⟨byU b u, ?_, ?_⟩
      · rw [nodes_by b hu huv, tot_snoc u v (by rw [nodes_len]; omega) (nodes_last b u), hb, stepT_of pw h2, h4]
      · rw [nodes_by b hu huv, List.reverse_append, hr, Rw_some (B.dn up) h1]; rfl
end Vf

set_option Elab.async false
set_option linter.all false
set_option maxRecDepth 100000
set_option maxHeartbeats 4000000
namespace Vf
open PySem PySem.Spec PyProof.Rows L2 TL LamX
def adjT (as : List Arc) (i : Nat) : List (Nat × Nat) := as.filterMap fun a => if a.1 = i then some a.2 else none
theorem adjT_mem {as : List Arc} {k : Nat} {p : Nat × Nat} : p ∈ adjT as k ↔ (k, p) ∈ as := by
  unfold adjT
  rw [List.mem_filterMap]
  constructor
  · rintro ⟨a, h1, h2⟩
    by_cases c : a.1 = k
    · rw [if_pos c] at h2
      rw [← Option.some.inj h2, ← c]; exact h1
    · rw [if_neg c] at h2; cases h2
  · intro h
    exact ⟨(k, p), h, if_pos rfl⟩
def NetT (n : Nat) (as : List Arc) : Prop := 1 ≤ n ∧ n ≤ 500 ∧ (∀ a ∈ as, a.1 < a.2.1 ∧ a.2.1 < n) ∧ ∀ i, (adjT as i).length ≤ 500
def CoV (H : Hp) (ps : List (Nat × Nat)) (x : V) (r : Nat × Nat) : Prop := ∃ b b2 p, x = .ref b ∧ ps[r.1]? = some p ∧ H b = some (.tup [.ref b2, nV r.2]) ∧ H b2 = some (.tup [nV p.1, nV p.2])
def ttBtT (tl : V → Hp → VK → Prop) (v0 : V) (H : Hp) (Q : VK) : Prop := ∃ (a : Addr) (us : List V) (ps : List (Nat × Nat)) (as : List Arc), v0 = .ref a ∧ H a = some (.tup us) ∧ LV (FgV H) us ps ∧ Inj ps ∧ NetT ps.length as ∧
  (∀ (i : Nat) (x : V) (H' : Hp) (Q' : VK), i + 1 < ps.length → us[i]? = some x → Same H H' → (∀ H'' b vs, Same H' H'' → H' b = none → H'' b = some (.lst vs) → LV (CoV H'' ps) vs (adjT as i) → Q' (.ref b) H'') → tl x H' Q') ∧
  ∀ (H' : Hp) (B D1 D2 : Addr) (f g : Nat → Option Nat) (N : Nat), Same H H' → H' B = some (.tup [.ref D1, .ref D2]) → BdT H' D1 N ps nV f → BdT H' D2 N ps (fun u => us.getD u .non) g → Bd (· ∈ as) f g → Q (.ref B) H'
theorem cut_lastT (xs : List V) : cutV xs none (some (-1)) = xs.take (xs.length - 1) := by
  unfold cutV
  have e1 : HT.sIx xs.length 0 none = 0 := rfl
  have e2 : HT.sIx xs.length xs.length (some (-1)) = xs.length - 1 := by
    unfold HT.sIx
    simp
    omega
  rw [e1, e2, List.drop_zero, Nat.sub_zero]
section
variable {P : Program} {w : World} {K : PySem.W.Frag} {mg : Str → Option Value} {base : Heap}
theorem gives_btT (T : Txt K mg) (k j : Nat) (q : Str) (cdv : Value) : GivesS P w K mg base k j ["places", "leads", "bounds", "tails", "tail", "head", "cost", "total"] "_bounds_and_tails" (defScope s_bounds_and_tails) T.a_bounds_and_tails cdv (defBody s_bounds_and_tails) q ttBtT := by
  intro A outer s H f c' v0 Q tl hr Lv hc htt
  have hrZ : Room (k + 1) (A.deeper (envOfC "_bounds_and_tails" (defScope s_bounds_and_tails) s.heap.objs.size T.a_bounds_and_tails cdv)) := hr.mono (by omega)
  obtain ⟨a, us, ps, as, rfl, ea, lv, inj, ok, hl, q⟩ := htt
  have hn := ok.1
  have n500 := ok.2.1
  have lA := ok.2.2.2
  have lvn := lv.1
  have g0 : ps[0]? = some ps[0] := List.getElem?_eq_getElem hn
  generalize ps[0] = p0 at g0
  obtain ⟨u0, eu0, b0, rfl, eb0⟩ := lv.2 0 _ g0
  refine ⟨_, (pss_cons (ps_set (i := 2) sc_bounds_and_tails.nd rfl (.inl rfl) (pe_dispT (hu0 hr) (pe_ix ix_tup (pv 0) pe_int (fun _ _ => rfl)) pe_int))
      (pss_cons (ps_set (i := 3) sc_bounds_and_tails.nd rfl (.inl rfl) pe_dnewT)
      (pss_cons (ps_for PassesOwn.never rfl (pi_tup (pe_slice sl_tupA (pv 0) po_none (po_some (pe_un un_neg pe_int)))) (pg_name (i := 4) sc_bounds_and_tails.nd rfl (.inl rfl)) (pss_one (ps_if (pt_cmp (pc_din (hu1 hr) (pv 4) (pv 2))) (pss_one (ps_for PassesOwn.never rfl (pi_list (pe_actS (i := 1) (c' := c') Lv hrZ rfl (Or.inl rfl) (pa_cons (pv 4) pa_nil))) (pg_tup (by rfl) (pgs_cons (pg_name (i := 5) sc_bounds_and_tails.nd rfl (.inl rfl)) (pgs_cons (pg_name (i := 6) sc_bounds_and_tails.nd rfl (.inl rfl)) pgs_nil))) (pss_cons (ps_set (i := 7) sc_bounds_and_tails.nd rfl (.inl rfl) (pe_op op_add (pe_dget (hu1 hr) (pv 2) (pv 4) (fun _ _ => rfl)) (pv 6)))
      (pss_one (ps_if (PW.pt (pw_or (pt_cmp (pc_dnotin (hu1 hr) (pv 5) (pv 2))) (pw_or1 (pt_cmpR op_lt (pv 7) (pe_dget (hu1 hr) (pv 2) (pv 5) (fun _ _ => rfl)) (nomark _))))) (pss_cons (ps_dput (hu1 hr) (pv 2) (pv 5) (pv 7) rfl)
      (pss_one (ps_dput (hu1 hr) (pv 3) (pv 5) (pv 4) rfl))) pss_nil))))) pss_nil)))
      (pss_one (ps_ret (pe_tup (pa_cons (pv 2) (pa_cons (pv 3) pa_nil)))))))), ?_⟩
  refine fun D1 nD1 => ?_
  have k1 := same_upd (o := .dT []) (Same.refl H) nD1
  refine ⟨_, rfl, a, _, 0, _, rfl, rfl, SqT.of (k1 _ _ ea), atI_nat (j := 0) eu0, ?_⟩
  refine ⟨upd_same, keyP p0, b0, rfl, k1 _ _ eb0, ?_⟩
  have b1 : BdT (upd (upd H D1 (.dT [])) D1 (.dT (putK [] (keyP p0) (V.int 0)))) D1 1 ps nV (fset (fun _ => none) 0 0) := ⟨_, upd_same, Nat.le_refl 1, fun j x ex => by
    rw [valV_put]
    by_cases c : j = 0
    · subst c
      rw [g0] at ex
      rw [← Option.some.inj ex, if_pos rfl, fset_same]; rfl
    · have cn : ¬ keyP x = keyP p0 := fun z => c (inj j 0 x ex (by rw [keyP_inj z]; exact g0))
      rw [if_neg cn, fset_ne c]; rfl⟩
  have k2 := same_mut (o := .dT (putK [] (keyP p0) (V.int 0))) k1 nD1
  generalize upd (upd H D1 (.dT [])) D1 (.dT (putK [] (keyP p0) (V.int 0))) = H2 at b1 k2
  refine fun D2 nD2 => ?_
  have nD2H : H D2 = none := by
    cases e : H D2 with
    | none => rfl
    | some o => rw [k2 _ _ e] at nD2; cases nD2
  have nDD : D1 ≠ D2 := by
    obtain ⟨kvs, h1, _⟩ := b1
    exact ne_of_none h1 nD2
  have k3 := same_upd (o := .dT []) k2 nD2
  have b2 : BdT (upd H2 D2 (.dT [])) D1 1 ps nV (fset (fun _ => none) 0 0) := b1.keep fun o e => by rw [upd_ne nDD]; exact e
  have t2 : BdT (upd H2 D2 (.dT [])) D2 0 ps (fun u => us.getD u .non) (fun _ => none) := ⟨[], upd_same, Nat.le_refl 0, fun _ _ _ => rfl⟩
  generalize upd H2 D2 (.dT []) = H3 at k3 b2 t2
  refine ⟨_, rfl, 1, rfl, _, rfl, slA_any (k3 _ _ ea) fun C H4 k34 eC => ?_⟩
  rw [cut_lastT] at eC
  have k4 := k3.trans k34
  have b4 := b2.keep fun o e => k34 _ _ e
  have t4 := t2.keep fun o e => k34 _ _ e
  have len1 : (us.take (us.length - 1)).length = ps.length - 1 := by rw [List.length_take]; omega
  refine ⟨C, rfl, ⟨_, SqT.of eC⟩, ?_⟩
  refine for_it (walk_tup (K := K) (a := C) (xs := us.take (us.length - 1))) (fun i σ' H' => ∃ (f1 g1 : Nat → Option Nat) (x4 x5 x6 x7 : Option V), σ' = [some (.ref a), some (.ref f), some (.ref D1), some (.ref D2), x4, x5, x6, x7] ∧ Same H H' ∧ H' C = some (.tup (us.take (us.length - 1))) ∧ BdT H' D1 (1 + 500 * i) ps nV f1 ∧ BdT H' D2 (500 * i) ps (fun u => us.getD u .non) g1 ∧ Bd (fun r => r ∈ as ∧ r.1 < i) f1 g1) ⟨_, _, none, none, none, none, rfl, k4, eC, b4, t4, Bd.start.congr fun r => ⟨fun z => by omega, fun z => z.elim⟩⟩ ?_ ?_ ?_
  · rintro i σ' H' _ ⟨_, _, _, _, _, _, _, _, e, _⟩
    exact SqT.of e
  · rintro i x σ' H5 H6 hi ⟨f1, g1, x4, x5, x6, x7, rfl, k5, eC5, b5, t5, B⟩ ⟨rfl, hx⟩
    rw [len1] at hi
    rw [List.getElem?_take_of_lt (by omega)] at hx
    obtain ⟨p, ep, bt, rfl, ebt⟩ := lv.at hx
    have hv : us.getD i .non = .ref bt := by rw [List.getD_eq_getElem?_getD, hx]; rfl
    have hn5 : (fun r : Arc => r ∈ as ∧ r.1 < i + 1) = fun r => (r ∈ as ∧ r.1 < i) ∨ (r ∈ as ∧ r.1 = i) := by
      funext r
      apply propext
      constructor
      · rintro ⟨h1, h2⟩
        by_cases c : r.1 < i
        · exact .inl ⟨h1, c⟩
        · exact .inr ⟨h1, by omega⟩
      · rintro (⟨h1, h2⟩ | ⟨h1, h2⟩)
        · exact ⟨h1, by omega⟩
        · exact ⟨h1, by omega⟩
    refine ⟨_, rfl, _, rfl, D1, _, rfl, b5.get ep (k5 _ _ ebt), ?_⟩
    cases hf : f1 i with
    | none =>
      refine ⟨false, rfl, f1, g1, _, _, _, _, rfl, k5, eC5, b5.keep' (by omega), t5.keep' (by omega), ?_⟩
      rw [hn5]
      exact B.none_ fun r hr => by rw [hr.2]; exact hf
    | some x =>
      refine ⟨true, rfl, ?_⟩
      refine ⟨rfl, _, rfl, _, rfl, k5 _ _ hc, hl i _ _ _ (by omega) hx k5 fun H7 b vs k67 nb eb lvb => ?_⟩
      have nb1 : b ≠ D1 := fun z => by
        obtain ⟨_, h1, _⟩ := b5
        rw [z, h1] at nb; cases nb
      have nb2 : b ≠ D2 := fun z => by
        obtain ⟨_, h1, _⟩ := t5
        rw [z, h1] at nb; cases nb
      refine ⟨b, rfl, ⟨_, SqL.of eb⟩, ?_⟩
      have lad : (adjT as i).length ≤ 500 := lA i
      refine for_it (walk_list (K := K) (a := b) (xs := vs)) (fun m σ' H' => ∃ (f2 g2 : Nat → Option Nat) (x5 x6 x7 : Option V), σ' = [some (.ref a), some (.ref f), some (.ref D1), some (.ref D2), some (.ref bt), x5, x6, x7] ∧ Same H H' ∧ H' C = some (.tup (us.take (us.length - 1))) ∧ BdT H' D1 (1 + 500 * i + m) ps nV f2 ∧ BdT H' D2 (500 * i + m) ps (fun u => us.getD u .non) g2 ∧ f2 i = some x ∧ Bd (fun r => (r ∈ as ∧ r.1 < i) ∨ (r.1 = i ∧ r.2 ∈ (adjT as i).take m)) f2 g2 ∧ (∀ (a : Addr) xs, H7 a = some (.tup xs) → H' a = some (.tup xs)) ∧ H' b = some (.lst vs)) ⟨f1, g1, x5, x6, x7, rfl, k5.trans k67, k67 _ _ eC5, b5.keep fun _ e => k67 _ _ e, t5.keep fun _ e => k67 _ _ e, hf, B.congr (fun r => by simp), fun _ _ e => e, eb⟩ ?_ ?_ ?_
      · rintro m σ' H' _ ⟨_, _, _, _, _, _, _, _, _, _, _, _, _, e⟩
        exact SqL.of e
      · rintro m y σ' H8' H8 hm ⟨f2, g2, x5, x6, x7, rfl, k7, eC7, b7, t7, ff, B7, kt, eb7⟩ ⟨rfl, hy⟩
        obtain ⟨r, hr2, c, ch, ph, rfl, eph, ec, ech⟩ := lvb.at hy
        have hmem : (i, r) ∈ as := adjT_mem.mp (List.mem_of_getElem? hr2)
        have hup := ok.2.2.1 _ hmem
        have hup : i < r.1 ∧ r.1 < ps.length := hup
        have hm2 : m < (adjT as i).length := (List.getElem?_eq_some_iff.mp hr2).1
        have hpr : ∀ r', ((r' ∈ as ∧ r'.1 < i) ∨ (r'.1 = i ∧ r'.2 ∈ (adjT as i).take m)) → r'.1 ≤ i := fun r' h => by
          rcases h with h | h <;> omega
        have hnx : (fun r' : Arc => (r' ∈ as ∧ r'.1 < i) ∨ (r'.1 = i ∧ r'.2 ∈ (adjT as i).take (m + 1))) = fun r' => ((r' ∈ as ∧ r'.1 < i) ∨ (r'.1 = i ∧ r'.2 ∈ (adjT as i).take m)) ∨ r' = (i, r.1, r.2) := by
          funext r'
          apply propext
          rw [show (adjT as i).take (m + 1) = (adjT as i).take m ++ [r] by rw [List.take_succ, hr2]; rfl, List.mem_append, List.mem_singleton]
          constructor
          · rintro (h | ⟨h1, h2 | h2⟩)
            · exact .inl (.inl h)
            · exact .inl (.inr ⟨h1, h2⟩)
            · exact .inr (by rw [← h1, ← h2])
          · rintro ((h | ⟨h1, h2⟩) | h)
            · exact .inl h
            · exact .inr ⟨h1, .inl h2⟩
            · exact .inr ⟨by rw [h], .inr (by rw [h])⟩
        have ebt8 := k7 _ _ ebt
        have ech8 := kt _ _ ech
        refine ⟨c, _, rfl, SqT.of (kt _ _ ec), rfl, _, _, rfl, _, _, rfl, rfl, ?_⟩
        have gi := b7.get ep ebt8
        rw [ff] at gi
        refine ⟨_, rfl, _, rfl, D1, _, rfl, gi, _, rfl, _, _, rfl, rfl, ?_⟩
        have gh := b7.get eph ech8
        refine ⟨_, rfl, _, rfl, D1, _, rfl, gh, ?_⟩
        have put : (∀ y, f2 r.1 = some y → x + r.2 < y) → ∃ H9 H10, DPut H8 D1 (.ref ch) (nV (x + r.2)) H9 ∧ DPut H9 D2 (.ref ch) (.ref bt) H10 ∧ ∃ f3 g3, Same H H10 ∧ H10 C = some (.tup (us.take (us.length - 1))) ∧ BdT H10 D1 (1 + 500 * i + (m + 1)) ps nV f3 ∧ BdT H10 D2 (500 * i + (m + 1)) ps (fun u => us.getD u .non) g3 ∧ f3 i = some x ∧ Bd (fun r => (r ∈ as ∧ r.1 < i) ∨ (r.1 = i ∧ r.2 ∈ (adjT as i).take (m + 1))) f3 g3 ∧ (∀ (a : Addr) xs, H7 a = some (.tup xs) → H10 a = some (.tup xs)) ∧ H10 b = some (.lst vs) := fun lo => by
          obtain ⟨H9, p1, b9, o9, e9⟩ := b7.put inj (by omega) eph ech8 (x + r.2)
          obtain ⟨kv1, q1, _⟩ := id b7
          obtain ⟨kv2, q2, _⟩ := id t7
          have t9 : BdT H9 D2 (500 * i + m) ps (fun u => us.getD u .non) g2 := t7.keep fun o e => by rw [e9, upd_ne nDD.symm]; exact e
          have ech9 : H9 ch = some (.tup [nV ph.1, nV ph.2]) := by rw [e9, upd_ne (fun z => by rw [z, q1] at ech8; cases ech8)]; exact ech8
          obtain ⟨H10, p2, t10, o10, e10⟩ := t9.put inj (by omega) eph ech9 i
          have p2 : DPut H9 D2 (.ref ch) (.ref bt) H10 := by rw [← hv]; exact p2
          have b10 : BdT H10 D1 (1 + 500 * i + m + 1) ps nV (fset f2 r.1 (x + r.2)) := b9.keep fun o e => by rw [e10, upd_ne nDD]; exact e
          refine ⟨H9, H10, p1, p2, _, _, ?_, ?_, b10, t10, by rw [fset_ne (by omega)]; exact ff, ?_, fun a xs e => ?_, ?_⟩
          · rw [e10, e9]; exact same_mut (same_mut k7 nD1) nD2H
          · rw [e10, e9, upd_ne (fun z => by rw [z, q2] at eC7; cases eC7), upd_ne (fun z => by rw [z, q1] at eC7; cases eC7)]; exact eC7
          · rw [hnx]; exact B7.put hpr hup.1 ff lo
          · have e2 := kt _ _ e
            rw [e10, e9, upd_ne (fun z => by rw [z, q2] at e2; cases e2), upd_ne (fun z => by rw [z, q1] at e2; cases e2)]; exact e2
          · rw [e10, e9, upd_ne nb2, upd_ne nb1]; exact eb7
        cases hh : f2 r.1 with
        | none =>
          rw [hh] at gh
          obtain ⟨H9, H10, p1, p2, f3, g3, r1, r2, r3, r4, r5, r6, r7, r8⟩ := put fun y h => by rw [hh] at h; cases h
          refine ⟨true, rfl, ?_⟩
          refine ⟨_, rfl, _, rfl, _, rfl, D1, H9, rfl, p1, ?_⟩
          refine ⟨_, rfl, _, rfl, _, rfl, D2, H10, rfl, p2, ?_⟩
          exact ⟨f3, g3, _, _, _, rfl, r1, r2, r3, r4, r5, r6, r7, r8⟩
        | some y =>
          have gh2 := gh
          rw [hh] at gh2
          rw [hh] at gh
          refine ⟨false, rfl, ?_⟩
          refine ⟨_, rfl, _, rfl, _, rfl, D1, _, rfl, gh2, _, _, rfl, rfl, ?_⟩
          by_cases lt : x + r.2 < y
          · obtain ⟨H9, H10, p1, p2, f3, g3, r1, r2, r3, r4, r5, r6, r7, r8⟩ := put fun y' h => by rw [hh] at h; have := Option.some.inj h; omega
            refine ⟨true, bTr (by omega), ?_⟩
            refine ⟨_, rfl, _, rfl, _, rfl, D1, H9, rfl, p1, ?_⟩
            refine ⟨_, rfl, _, rfl, _, rfl, D2, H10, rfl, p2, ?_⟩
            exact ⟨f3, g3, _, _, _, rfl, r1, r2, r3, r4, r5, r6, r7, r8⟩
          · refine ⟨false, bFa (by omega), ?_⟩
            refine ⟨f2, g2, _, _, _, rfl, k7, eC7, b7.keep' (by omega), t7.keep' (by omega), ff, ?_, kt, eb7⟩
            rw [hnx]; exact B7.skip hpr hup.1 ff hh (by omega)
      · rintro σ' H8 ⟨f2, g2, x5, x6, x7, rfl, k7, eC7, b7, t7, ff, B7, kt, eb7⟩
        have em : vs.length = (adjT as i).length := lvb.1
        refine ⟨f2, g2, _, _, _, _, rfl, k7, eC7, b7.keep' (by omega), t7.keep' (by omega), ?_⟩
        rw [hn5]
        refine B7.congr fun r => ?_
        rw [em, List.take_length, adjT_mem]
        constructor
        · rintro (h | ⟨h1, h2⟩)
          · exact .inl h
          · exact .inr ⟨h2, by rw [← h2]; exact h1⟩
        · rintro (h | ⟨h1, h2⟩)
          · exact .inl h
          · exact .inr ⟨by rw [← h1] at h2; exact h2, h1⟩
  · rintro σ' H5 ⟨f1, g1, x4, x5, x6, x7, rfl, k5, eC5, b5, t5, B⟩
    rw [len1] at B
    refine ⟨_, rfl, _, rfl, by show 2 ≤ sizeLine; decide, fun R nR => ?_⟩
    have nD1R : D1 ≠ R := by
      obtain ⟨kvs, h1, _⟩ := b5
      exact ne_of_none h1 nR
    have nD2R : D2 ≠ R := by
      obtain ⟨kvs, h1, _⟩ := t5
      exact ne_of_none h1 nR
    exact q (upd H5 R (.tup [.ref D1, .ref D2])) R D1 D2 f1 g1 (1 + 500 * (us.take (us.length - 1)).length) (same_upd k5 nR) upd_same (b5.keep fun o e => by rw [upd_ne nD1R]; exact e) ((t5.keep' (by omega)).keep fun o e => by rw [upd_ne nD2R]; exact e) (B.congr fun r => ⟨fun h => ⟨h, by have := ok.2.2.1 r h; omega⟩, fun h => h.1⟩)
end
end Vf

set_option Elab.async false
set_option linter.all false
set_option maxRecDepth 100000
set_option maxHeartbeats 4000000
namespace Vf
open PySem PySem.Spec PyProof.Rows L2 TL
/-! ### bounds: there are some, and only one -/
theorem bd_take {l : List Arc} (pw : l.Pairwise fun a b => a.1 ≤ b.1) (up : ∀ a ∈ l, a.1 < a.2.1) : ∀ k, k ≤ l.length → ∃ f g, Bd (· ∈ l.take k) f g
  | 0, _ => ⟨_, _, Bd.start.congr fun a => ⟨fun h => (nomatch (show a ∈ ([] : List Arc) from h)), fun h => False.elim h⟩⟩
  | k + 1, hk => by
    obtain ⟨f, g, B⟩ := bd_take pw up k (by omega)
    obtain ⟨r, er⟩ : ∃ r, l[k]? = some r := ⟨_, List.getElem?_eq_getElem hk⟩
    have et : l.take (k + 1) = l.take k ++ [r] := by rw [List.take_succ, er]; rfl
    have hup : r.1 < r.2.1 := up r (List.mem_of_getElem? er)
    have hp : ∀ a, a ∈ l.take k → a.1 ≤ r.1 := fun a ha => by
      rw [← List.take_append_drop k l, List.pairwise_append] at pw
      have : r ∈ l.drop k := by
        rw [List.drop_eq_getElem_cons hk, (List.getElem?_eq_some_iff.mp er).2]
        exact List.mem_cons_self
      exact pw.2.2 a ha r this
    have con : ∀ {f g : Nat → Option Nat}, Bd (fun a => a ∈ l.take k ∨ a = (r.1, r.2.1, r.2.2)) f g → ∃ f g, Bd (· ∈ l.take (k + 1)) f g := fun {f g} h => ⟨f, g, h.congr fun a => by
      rw [et, List.mem_append, List.mem_singleton]⟩
    cases hf : f r.1 with
    | none => exact con (B.none_ (P2 := fun a => a = (r.1, r.2.1, r.2.2)) fun a ha => by rw [ha]; exact hf)
    | some x =>
      cases hh : f r.2.1 with
      | none => exact con (B.put hp hup hf fun y h => by rw [hh] at h; cases h)
      | some y =>
        by_cases c : x + r.2.2 < y
        · exact con (B.put hp hup hf fun y' h => by rw [hh] at h; have := Option.some.inj h; omega)
        · exact con (B.skip hp hup hf hh (by omega))
theorem bd_ex {l : List Arc} (pw : l.Pairwise fun a b => a.1 ≤ b.1) (up : ∀ a ∈ l, a.1 < a.2.1) : ∃ f g, Bd (· ∈ l) f g := by
  obtain ⟨f, g, B⟩ := bd_take pw up l.length (Nat.le_refl _)
  rw [List.take_length] at B
  exact ⟨f, g, B⟩
theorem bd_one {Pr : Arc → Prop} {f g f' g' : Nat → Option Nat} (B : Bd Pr f g) (C : Bd Pr f' g') (up : ∀ a, Pr a → a.1 < a.2.1) : ∀ n v, v < n → f v = f' v ∧ g v = g' v
  | 0, _, h => absurd h (Nat.not_lt_zero _)
  | n + 1, v, h => by
    have ih := bd_one B C up n
    by_cases hv : v = 0
    · subst hv; exact ⟨by rw [B.z.1, C.z.1], by rw [B.z.2, C.z.2]⟩
    · cases e : f v with
      | none =>
        cases e' : f' v with
        | none => exact ⟨rfl, by rw [(B.n v hv e).1, (C.n v hv e').1]⟩
        | some y' =>
          obtain ⟨u, c, x, h1, h2, h3, _⟩ := C.s v y' hv e'
          have hu : u < v := up _ h2
          rw [← (ih u (by omega)).1] at h3
          rw [(B.n v hv e).2 u c h2] at h3; cases h3
      | some y =>
        obtain ⟨u, c, x, h1, h2, h3, h4, h5⟩ := B.s v y hv e
        have hu : u < v := up _ h2
        have h3' := h3
        rw [(ih u (by omega)).1] at h3'
        obtain ⟨y', e', l'⟩ := C.le h2 h3'
        obtain ⟨u', c', x', k1, k2, k3, k4, k5⟩ := C.s v y' hv e'
        have hu' : u' < v := up _ k2
        have k3' := k3
        rw [← (ih u' (by omega)).1] at k3'
        obtain ⟨l1, l2⟩ := h5 u' c' x' k2 k3'
        obtain ⟨m1, m2⟩ := k5 u c x h2 h3'
        have ey : y = y' := by omega
        have := l2 (by omega)
        have := m2 (by omega)
        refine ⟨by rw [e', ey], by rw [h1, k1, show u = u' by omega]⟩
theorem bd_eq {Pr : Arc → Prop} {f g f' g' : Nat → Option Nat} (B : Bd Pr f g) (C : Bd Pr f' g') (up : ∀ a, Pr a → a.1 < a.2.1) : f = f' ∧ g = g' :=
  ⟨funext fun v => (bd_one B C up (v + 1) v (Nat.lt_succ_self v)).1, funext fun v => (bd_one B C up (v + 1) v (Nat.lt_succ_self v)).2⟩
/-! ### the arcs of rows -/
theorem adj_own {a : Nat} {l : List Arc} (h : ∀ x ∈ l, x.1 = a) (i : Nat) : adjT l i = if a = i then l.map (·.2) else [] := by
  induction l with
  | nil => by_cases c : a = i <;> simp [adjT, c]
  | cons x l ih =>
    have hx := h x List.mem_cons_self
    have ih := ih fun y hy => h y (List.mem_cons_of_mem _ hy)
    unfold adjT at ih ⊢
    by_cases c : a = i
    · rw [if_pos c] at ih ⊢
      rw [List.filterMap_cons_some (b := x.2) (by rw [if_pos (by omega)]), ih]; rfl
    · rw [if_neg c] at ih ⊢
      rw [List.filterMap_cons_none (by rw [if_neg (by omega)]), ih]
theorem adj_flat {R : Nat → List Arc} (hR : ∀ a, ∀ x ∈ R a, x.1 = a) (i : Nat) : ∀ m, adjT ((List.range m).flatMap R) i = if i < m then (R i).map (·.2) else []
  | 0 => by rw [if_neg (Nat.not_lt_zero _)]; rfl
  | m + 1 => by
    have ih := adj_flat hR i m
    have ha : adjT (R m) i = if m = i then (R m).map (·.2) else [] := adj_own (hR m) i
    have e : adjT ((List.range (m + 1)).flatMap R) i = adjT ((List.range m).flatMap R) i ++ adjT (R m) i := by
      rw [List.range_succ, List.flatMap_append, List.flatMap_cons, List.flatMap_nil, List.append_nil]
      unfold adjT
      rw [List.filterMap_append]
    rw [e, ih, ha]
    by_cases c : m = i
    · subst c
      rw [if_neg (Nat.lt_irrefl _), if_pos rfl, if_pos (Nat.lt_succ_self _)]; rfl
    · rw [if_neg c, List.append_nil]
      by_cases d : i < m
      · rw [if_pos d, if_pos (by omega)]
      · rw [if_neg d, if_neg (by omega)]
theorem flat_pw {R : Nat → List Arc} (hR : ∀ a, ∀ x ∈ R a, x.1 = a) (m : Nat) : ((List.range m).flatMap R).Pairwise fun a b => a.1 ≤ b.1 := by
  rw [List.pairwise_flatMap]
  refine ⟨fun a _ => List.pairwise_of_forall_mem_list fun x hx y hy => by rw [hR a x hx, hR a y hy]; exact Nat.le_refl _, ?_⟩
  exact (List.pairwise_lt_range).imp fun {a b} h x hx y hy => by rw [hR a x hx, hR b y hy]; exact Nat.le_of_lt h
section
variable {M L : Nat} {S : Sty} {Z : List (List Nat)}
theorem rowQ_fst : ∀ a, ∀ x ∈ rowQ M L S Z a, x.1 = a := fun a x hx => by
  unfold rowQ at hx
  obtain ⟨y, _, rfl⟩ := List.mem_map.mp hx
  rfl
theorem netQ_pw : (netQ M L S Z).Pairwise fun a b => a.1 ≤ b.1 := flat_pw rowQ_fst _
/-- the arc from a to b, if it fits -/
def arcAt (M L : Nat) (S : Sty) (Z : List (List Nat)) (a b : Nat) : Option Arc := arcD M L S Z ((posL S Z).getD a (0, 0)).1 ((posL S Z).getD a (0, 0)).2 a b ((posL S Z).getD b (0, 0))
theorem rowQ_at {a : Nat} (ha : a + 1 < (posL S Z).length) : rowQ M L S Z a = (List.range ((posL S Z).length - (a + 1))).filterMap fun s => arcAt M L S Z a (a + 1 + s) := by
  have e : (posL S Z)[a]? = some (posL S Z)[a] := List.getElem?_eq_getElem (by omega)
  have ⟨h1, h2⟩ := pos_body e ha
  rw [rowQ_law e h1 h2]
  refine fmp_cong fun s hs => ?_
  have hs := List.mem_range.mp hs
  have eb : (posL S Z)[a + 1 + s]? = some (posL S Z)[a + 1 + s] := List.getElem?_eq_getElem (by omega)
  unfold arcAt
  rw [eb, getD_of eb, getD_of e]; rfl
theorem arcAt_is {a b : Nat} {x : Arc} (h : arcAt M L S Z a b = some x) : x.1 = a ∧ x.2.1 = b := by
  unfold arcAt arcD at h
  split at h
  · rw [← Option.some.inj h]; exact ⟨rfl, rfl⟩
  · cases h
theorem netQ_up : ∀ a ∈ netQ M L S Z, a.1 < a.2.1 ∧ a.2.1 < (posL S Z).length := fun x hx => by
  unfold netQ at hx
  obtain ⟨a, ha, hx⟩ := List.mem_flatMap.mp hx
  have ha := List.mem_range.mp ha
  rw [rowQ_at (by omega)] at hx
  obtain ⟨s, hs, e⟩ := List.mem_filterMap.mp hx
  have hs := List.mem_range.mp hs
  have := arcAt_is e
  omega
theorem pos_pos : 1 ≤ (posL S Z).length := by
  unfold posL
  rw [List.length_append]
  exact Nat.le_add_left _ _
theorem netQ_adj {i : Nat} (hi : i + 1 < (posL S Z).length) : adjT (netQ M L S Z) i = (rowQ M L S Z i).map (·.2) := by
  unfold netQ
  rw [adj_flat rowQ_fst, if_pos (by omega)]
theorem netQ_adj0 {i : Nat} (hi : (posL S Z).length ≤ i + 1) : adjT (netQ M L S Z) i = [] := by
  unfold netQ
  rw [adj_flat rowQ_fst, if_neg (by omega)]
theorem rowQ_len {i : Nat} (hi : i + 1 < (posL S Z).length) : (rowQ M L S Z i).length ≤ (posL S Z).length - (i + 1) := by
  rw [rowQ_at hi]
  have := List.length_filterMap_le (fun s => arcAt M L S Z i (i + 1 + s)) (List.range ((posL S Z).length - (i + 1)))
  rwa [List.length_range] at this
theorem adjQ_len (i : Nat) : (adjT (netQ M L S Z) i).length ≤ (posL S Z).length - (i + 1) := by
  by_cases c : i + 1 < (posL S Z).length
  · rw [netQ_adj c, List.length_map]; exact rowQ_len c
  · rw [netQ_adj0 (by omega)]; exact Nat.zero_le _
theorem netQ_T (h : (posL S Z).length ≤ 91) : NetT (posL S Z).length (netQ M L S Z) :=
  ⟨pos_pos, by omega, netQ_up, fun i => by have := adjQ_len (M := M) (L := L) (S := S) (Z := Z) i; omega⟩
theorem netQ_bd : ∃ f g, Bd (· ∈ netQ M L S Z) f g := bd_ex netQ_pw fun a h => (netQ_up a h).1
end
/-! ### items of a search for all ways -/
def Itm (f g : Nat → Option Nat) (c : Nat × List Nat) : Prop := ∃ v r y, c.2 = v :: r ∧ f v = some y ∧ LeI (y :: Rw g v) (c.1 :: c.2)
theorem itm_step {as : List Arc} {f g : Nat → Option Nat} (B : Bd (· ∈ as) f g) (up : ∀ a ∈ as, a.1 < a.2.1) {c : Nat × List Nat} {v u k : Nat} {r : List Nat} (h : Itm f g c) (e : c.2 = v :: r) (ha : (v, u, k) ∈ as) : Itm f g (c.1 + k, u :: c.2) := by
  obtain ⟨v', r', y', e', e1, l1⟩ := h
  rw [e] at e'
  obtain ⟨rfl, rfl⟩ := List.cons.inj e'
  obtain ⟨y, e2, l2⟩ := best_arc B up ha e1
  refine ⟨u, _, y, rfl, e2, ?_⟩
  show LeI (y :: Rw g u) ((c.1 + k) :: u :: c.2)
  rw [e] at l1 ⊢
  generalize v :: r = q at l1 ⊢
  have l3 : LeI ((y' + k) :: u :: Rw g v) ((c.1 + k) :: u :: q) := by
    rcases l1 with l | l
    · cases l with
      | rel r =>
        have r : (y' : Int) < (c.1 : Int) := r
        exact LeI.head (by omega)
      | cons r => exact .inl (zI_lt_cons (zI_lt_cons r))
    · injection l with l4 l5
      rw [l4, l5]; exact .inr rfl
  rcases l2 with l2 | l2
  · rcases l3 with l3 | l3
    · exact .inl (List.lt_trans l2 l3)
    · rw [← l3]; exact .inl l2
  · rw [l2]; exact l3
end Vf

set_option Elab.async false
set_option linter.all false
set_option maxRecDepth 100000
set_option maxHeartbeats 4000000
/-! ### isinstance of an exception that has its own dict -/
namespace PySem.W
open PySem PySem.Spec PySem.Calls PyProof.Rows
section
variable {prog : Program} {w : World} {A : Around} {E : Value → Shared → Prop} {s : Shared} {K : Frag} {x D : Addr} {ox : Obj} {od : Option Obj}
theorem vf_data {name : Str} {a g : Value} (hc : (clsIn K D).isSome = true) (ha : findIn K (.ref D) name = some (some a)) (hg : specialIn K a "__get__" = some (some g)) (ht : takesIn K a = some true) :
    findObj K D od name = some (.bind g a) := by
  cases e : clsIn K D with
  | none => rw [e] at hc; cases hc
  | some cd =>
    unfold findObj
    rw [e, Option.bind_some, ha, Option.bind_some]
    simp [hg, ht]
theorem vf_class {Q : Option Value → Shared → Prop} (C : L2.ExcC K D) (X : K.In s.heap) (I : InstAt s.heap x ox D od) (q : Q (some (.ref D)) { s with toks := s.toks + 1 }) :
    wpAny (model prog w) A (getAttr? (.ref x) "__class__") Q E s := by
  have found : findObj K D od "__class__" = some (.bind (.builtin "getset_descriptor.__get__") (.builtin "object.__class__")) :=
    vf_data (by obtain ⟨cd, e, _⟩ := any_some C.hd; rw [e]; rfl) C.ha C.hn C.ht
  rcases s with ⟨hp, g, d, t, os⟩
  have l0 := I.type (M := model prog w)
  have l1 := looks_findIn (M := model prog w) X C.hg
  have l2 := looks_findIn (M := model prog w) X C.hk
  have l3 := looks_find (M := model prog w) X I found
  have lb : Looks (model prog w) hp (isInstance (.ref x) (.type "BaseException")) true := l0.andThen (looks_subIn X C.hs)
  have n0 : (false && onTheHeap (Value.builtin "BaseException.__getattribute__")) = false := rfl
  have n1 : (onTheHeap (Value.ref D) && Value.builtin "BaseException.__getattribute__" == Value.builtin "object.__getattribute__") = false := by
    have n2 : (Value.builtin "BaseException.__getattribute__" == Value.builtin "object.__getattribute__") = false := by decide +kernel
    rw [n2]
    rfl
  unfold getAttr? getAttrBy? getAttrBy
  refine wpAny_bind (wpAny_mkText (wpAny_bind (wpAny_attempt (wpAny_holding ?_))))
  refine wpAny_bind (l0.at (wpAny_bind (l1.at ?_)))
  show wpAny _ _ (ite ((onTheHeap (Value.ref D) && Value.builtin "BaseException.__getattribute__" == Value.builtin "object.__getattribute__") = true) _ _) _ _ _
  rw [n1, if_neg Bool.false_ne_true]
  unfold getAttrByItsOwn hookBefore
  apply wpAny_bind
  rw [if_pos (show onTheHeap (Value.ref D) = true from rfl)]
  apply l2.at
  apply wpAny_bind
  apply wpAny_attempt
  apply wpAny_holding
  unfold callGetattribute
  rw [n0, if_neg Bool.false_ne_true]
  unfold boundAndCalled
  rw [PySem.F.excAttr_ValueError.ga.bind (.ref x)]
  apply wpAny_bind
  apply wpAny_pure
  show wpAny _ _ (call (Value.builtin "BaseException.__getattribute__") [Value.ref x, Value.str "__class__" t]) _ _ _
  apply wpAny_call
  apply codeAny_call_builtin PySem.F.excAttr_ValueError.ga.plain PySem.F.entry_bexc_ga
  refine @check_slot (model prog w) _ _ ⟨hp, g, d, t + 1, os⟩ "BaseException.__getattribute__" "BaseException" "__getattribute__" (.ref x) [.str "__class__" t] []
    _ (by decide +kernel) (by decide +kernel) lb (PySem.F.args_bexc_ga (.ref x) (.str "__class__" t)) ?_
  unfold Builtin.«object.__getattribute__»
  apply wpAny_bind
  apply wpAny_of_eq (a := ((Value.ref x : Value), [Value.str "__class__" t])) (by first | rfl | (simp only [slotArgs]; rfl))
  apply wpAny_bind
  apply wpAny_pure
  apply wpAny_bind
  apply l0.at
  apply wpAny_bind
  apply l3.at
  show wpAny _ _ (holding [Value.builtin "object.__class__"] (call (Value.builtin "getset_descriptor.__get__") [Value.builtin "object.__class__", Value.ref x, Value.ref D]) >>= ret) _ _ _
  apply wpAny_bind
  apply wpAny_holding
  apply wpAny_call
  apply class_get (s := ⟨hp, g, d, t + 1, os⟩) (ox := ox) (od := od) X I C.hm
  apply wpAny_pure
  show wpAny _ _ (handedOut (Value.ref D)) _ _ _
  rw [handedOut_of (v := Value.ref D) rfl]
  first | exact wpAny_pure (wpAny_pure q) | exact wpAny_pure q | exact wpAny_pure (wpAny_bind (wpAny_pure (wpAny_pure q)))
theorem vf_kit (C : L2.ExcC K D) : KitX K (.ref x) (.ref D) (fun h => InstAt h x ox D od) := by
  obtain ⟨cdD, hcD, _⟩ := any_some C.hd
  refine ⟨fun _ _ _ I => I.type, fun _ _ X _ => ?_, fun h tp dd its n sl X htp => ?_, fun X I k => vf_class C X I k⟩
  · unfold clsIn at hcD
    split at hcD
    · next e =>
      intro A' Q' E' s' k q
      unfold isType loadHead
      exact wpAny_bind (wpAny_loadPart (k _ _ (X _ _ e)) (wpAny_pure q))
    · cases hcD
  · apply Bool.eq_false_iff.mpr
    intro q
    have e : D = tp := Value.ref.inj (beq_iff_eq.mp q)
    rw [← e] at htp
    unfold clsIn at hcD
    split at hcD
    · next e2 =>
      have z := (X _ _ e2).symm.trans htp
      cases z
    · cases hcD
end
end PySem.W
namespace Vf
open PySem PySem.Spec PyProof.Rows L2 L2H TL
/-- the pinned exception p: of the class D, its dict at d -/
structure ExcAt (K : PySem.W.Frag) (D d : Addr) (p : Addr × Obj) : Prop where
  z : Zc (.ref D) (some d) p.2
  f : ∃ vs, p.2.data = .fields vs
theorem ExcAt.inst {X : Cx} {K : PySem.W.Frag} {D d : Addr} {p : Addr × Obj} {pins : List (Addr × Obj)} {σ : L2.St} {H : Hp} {s : Shared} {fs : List (Str × V)} (c : ExcAt K D d p) (I : Inv X pins σ H s) (hp : p ∈ X.pn) (hd : H d = some (.xd fs)) :
    ∃ (od : Obj) (mA : Str → Option Value), PySem.W.InstAt s.heap p.1 p.2 D (some od) ∧ (∀ n, PySem.W.lookIn n od = some (mA n)) ∧ ∀ n, RelO (fs.lookup n) (mA n) := by
  have hx : ObjOk X.prog X.w H s.heap d (.xd fs) := I.hok d _ hd
  obtain ⟨mA, hns, hr⟩ := hx
  obtain ⟨od, ho, hl⟩ := lookIn_ns hns
  obtain ⟨vs, hv⟩ := c.f
  have ha := (I.pin p (List.mem_append_left _ hp)).1
  exact ⟨od, mA, ⟨ha, c.z.1, (by unfold PySem.W.notCls; rw [hv] <;> rfl), (by rw [c.z.2]; exact ho)⟩, hl, hr⟩
/-- isinstance(e, c) of the pinned exception -/
def rIsP (K : PySem.W.Frag) (D d : Addr) (p : Addr × Obj) (xs : List V) (H : Hp) (Q : VK) : Prop :=
  ∃ (c : V) (cv : Value) (b : Bool) (fs : List (Str × V)), xs = [.ref p.1, c] ∧ ClsV c cv ∧
    PySem.W.kitOne K (.ref D) cv = some b ∧ H d = some (.xd fs) ∧ Q (.bl b) H
theorem call_isP {X : Cx} {D d : Addr} {p : Addr × Obj} (C : ExcC X.K D) (c : ExcAt X.K D d p) (hp : p ∈ X.pn) : CallR X (.builtin "isinstance") (rIsP X.K D d p) := by
  intro pins s σ H xs us Q I r h
  obtain ⟨cc, cv, b, fs, rfl, hcv, e, hd, q⟩ := h
  obtain ⟨u1, u2, rfl, r1, r2⟩ := vals2 r
  have e1 : u1 = Value.ref p.1 := r1
  have e2 := hcv.eq r2
  subst e1 e2
  obtain ⟨od, mA, J, _, _⟩ := c.inst I hp hd
  exact PySem.W.kia_one (PySem.W.vf_kit C) I.kIn J e (fun z => nomatch z) fun tk => ⟨.bl b, H, I.kept (t' := tk) fun _ _ z => z, rfl, q⟩
/-- e.n of the pinned exception -/
def tXp (d : Addr) (p : Addr × Obj) (n : Str) (te : TE) (σ : L2.St) (H : Hp) (Q : VK) : Prop :=
  te σ H fun x H1 => x = .ref p.1 ∧ ∃ (fs : List (Str × V)) (v : V), H1 d = some (.xd fs) ∧ fs.lookup n = some v ∧ Q v H1
theorem pe_xp {X : Cx} {D d : Addr} {p : Addr × Obj} {e : Expr} {te : TE} {pos : Pos} {n : Str} (C : XfC X.K D) (hno : PySem.W.findIn X.K (.ref D) n = some none) (c : ExcAt X.K D d p) (hp : p ∈ X.pn) (he : PE X e te)
    (hb : attributeBase e n X.env (eval e X.env) = eval e X.env := by rfl) : PE X (.Attribute e n pos) (tXp d p n te) := by
  constructor
  intro pins s σ H Q I h
  refine attr_of hb (thn (he.run pins s σ H _ I h) fun u s1 hh => ?_)
  obtain ⟨x, H1, I1, rx, ex, fs, v, hd, l, q⟩ := hh
  subst ex
  have eu : u = Value.ref p.1 := rx
  subst eu
  obtain ⟨od, mA, J, hl, hr⟩ := c.inst I1 hp hd
  obtain ⟨y, hy, ry⟩ := RelO.some_of (v := v) (o := mA n) (by rw [← l]; exact hr n)
  exact HandSPX.exc_get I1.kIn J C.ga C.gg C.exC (PySem.W.findObj_own C.hdC hno rfl (by rw [hl, hy])) (handed_of ry) ⟨v, H1, I1.tok _, ry, q⟩
/-! ### a def that is called where an exception is held, and knows it -/
structure FnP (P : Program) (w : World) (K : PySem.W.Frag) (mg : Str → Option Value) (base : Heap) (k : Nat) (f : Addr) (fd : FuncData) (ps : List Str) (sp : (Addr × Obj) → List V → Hp → VK → Prop) : Prop where
  len : ∀ p vs H Q, sp p vs H Q → vs.length = ps.length
  run : ∀ (A : Around) (outer : List Env) (s : Shared) (H : Hp) (us : List Value) (vs : List V) (Q : VK) (p : Addr × Obj),
    RoomH k A → Hot1 A p → PinOk outer H s p → Env0 P w K mg base A outer s H → BindsTo s fd ⟨us, []⟩ (ps.zip us) → Vals vs us → sp p vs H Q →
    codeAny (model P w) A (.call (.ref f) ⟨us, []⟩) (CR CX0 outer P w H s Q E0) s
/-- the held exception alone -/
abbrev cxP (P : Program) (w : World) (K : PySem.W.Frag) (mg : Str → Option Value) (base : Heap) (N : List Str) (qual : Str) (scope : Scope) (f : Addr) (cd : Value) (A : Around) (outer : List Env) (s : Shared) (H : Hp) (p : Addr × Obj) : Cx :=
  cxH CX0 P w K mg base N qual scope f cd A outer s H E0 p
section
variable {P : Program} {w : World} {K : PySem.W.Frag} {mg : Str → Option Value} {base : Heap} {k : Nat} {f : Addr} {fd : FuncData}
/-- from a def's body, as FnH's: by that rule, at the one exception -/
theorem FnP.of {x qual : Str} {st : Stmt} {N ps : List Str} {sp : (Addr × Obj) → List V → Hp → VK → Prop} (F : L2.Fun K x qual st f fd) (S : FnScope N ps (defScope st)) (len : ∀ p vs H Q, sp p vs H Q → vs.length = ps.length)
    (body : ∀ (cdv : Value) (A : Around) (outer : List Env) (s : Shared) (H : Hp) (vs : List V) (Q : VK) (p : Addr × Obj), Hot1 A p → RoomH k (A.deeper (envOfC qual (defScope st) s.heap.objs.size f cdv)) → sp p vs H Q →
      ∃ t, PSs (cxP P w K mg base N qual (defScope st) f cdv A outer s H p).nox (defBody st) t ∧ t { nx := fun _ H' => Q .non H', rt := Q } (L2.start N vs) H) : FnP P w K mg base (k + 1) f fd ps sp := by
  obtain ⟨oc, od, kV, doc, pm, an, cdv, ct, osl, rfl, lk, hcd⟩ := F.ex
  refine ⟨len, fun A outer s H us vs Q p hr hot hpin e0 hb r hsp => ?_⟩
  have hl := len _ _ _ _ hsp
  have KX : K.In s.heap := e0.mod.kin.keeps fun b o e => (e0.bs b o e).1
  have lim : s.heap.NoLimit := e0.mod.nolimit.keeps fun b o e => (e0.bs b o e).1
  have kinds : ∀ y ∈ ps.zip us, (defScope st).names.lookup y.1 = some .local ∨
      ((defScope st).names.lookup y.1 = some .cell ∧ ((cellsFrom (s.heap.objs.size + 1) (defScope st).names []).lookup y.1).isSome = true) := by
    rintro ⟨n, v⟩ hy
    rcases S.par n (List.of_mem_zip hy).1 with q | q
    · exact .inl q
    · exact .inr ⟨q, PySem.W.cellsFrom_some _ _ _ (.inl q)⟩
  refine codeAny_call_function hr.depth (KX _ _ lk) rfl S.co S.gen rfl (PySem.W.codeRec_of KX hcd) (hb _ _ _ _ ?_)
  refine wpAny_newFunctionEnv_cells S.kind kinds fun env he s1 x => ?_
  subst he
  refine ⟨lim.keeps x.toInCall.keep, codeAny_func ?_⟩
  obtain ⟨t, ht, hq⟩ := body cdv A outer s H vs Q p hot (hr.deeper _) hsp
  have I := inv_startH (CX := CX0) (E := E0) S hpin e0 hl r x
  refine wpAny_mono (ht.nox.run [] s1 (L2.start N vs) H _ I hq) (fun fl s' hs => ?_) fun e s' hs => hs
  have fin : ∀ {σ' : L2.St} {H' : Hp} {v : V} {u : Value}, Inv (cxP P w K mg base N qual (defScope st) f cdv A outer s H p) [] σ' H' s' → RelV v u → Q v H' → CE outer P w H s Q u s' := by
    intro σ' H' v u J rv q
    exact ⟨v, H', J.os, J.bare, J.base, J.hok, rv, q⟩
  cases fl with
  | ret u => obtain ⟨v, σ', H', J, rv, q⟩ := hs; exact fin J rv q
  | next => obtain ⟨σ', H', J, q⟩ := hs; exact fin (v := V.non) (u := Value.none) J rfl q
  | brk => obtain ⟨_, _, _, q⟩ := hs; exact q.elim
  | cont => obtain ⟨_, _, _, q⟩ := hs; exact q.elim
end
/-! ### such a call -/
def tCallP (sp : (Addr × Obj) → List V → Hp → VK → Prop) (p : Addr × Obj) (t : TA) (σ : L2.St) (H : Hp) (Q : VK) : Prop := t σ H fun vs H1 => sp p vs H1 Q
section
variable {X : Cx} {k : Nat} {f : Addr} {fd : FuncData} {ps : List Str} {sp : (Addr × Obj) → List V → Hp → VK → Prop} {x : Str} {q pos : Pos} {e : Expr} {es : List Expr} {t : TA} {p : Addr × Obj}
theorem pe_callP (F : FnP X.prog X.w X.K X.mg X.base k f fd ps sp) (hr : RoomH k X.A) (hot : Hot1 X.A p) (hp : p ∈ X.pn) (hg : Gl X x) (hm : X.mg x = some (.ref f)) (hk : PySem.W.keepIn X.K (.ref f) = true) (hb : Binds X.K fd ps [])
    (ha : PA X (e :: es) t) (hdb : (x == ("__debug__" : Str)) = false := by decide) (he : starEach (e :: es) X.env = (false, eval e X.env) :: starEach es X.env := by rfl)
    (hpl : (backTo pos (starEach es X.env)).any (·.1) = false := by rfl) : PE X (.Call (.Name x q) (e :: es) [] pos) (tCallP sp p t) := by
  constructor
  intro pins s σ H Q I h
  refine wpAny_Call_Name_kw (ld_glob I hg hm ?_ hdb)
  refine PySem.W.callWith_K (h₀ := X.base) I.ok.mod.kin hk (thn (ha.run pos pins s σ H _ I h) fun us s1 res => ?_) he hpl
  obtain ⟨vs, H1, I1, r, q1⟩ := res
  refine ⟨I1.kIn, ?_⟩
  have hl : us.length = ps.length := by rw [← r.length]; exact F.len _ _ _ _ q1
  have b := hb s1 us I1.kIn (by rw [List.append_nil]; exact hl)
  rw [List.append_nil] at b
  have pin := I1.pin p (List.mem_append_left _ hp)
  have hpin : PinOk X.stack H1 s1 p := by
    refine ⟨pin.1, pin.2.1, fun hm => ?_, pin.2.2.2.2⟩
    rcases List.mem_cons.mp (I1.stkSub p.1 hm) with z | z
    · exact pin.2.2.1 z
    · exact pin.2.2.2.1 z
  refine wpAny_call (codeAny_mono (F.run X.A X.stack s1 H1 us vs Q p hr hot hpin I1.env0 b r q1) fun rr s' hq => ?_)
  cases rr with
  | error e => exact hq.elim
  | ok fl =>
    cases fl with
    | ret u => exact I1.after hq
    | next => exact hq.elim
    | brk => exact hq.elim
    | cont => exact hq.elim
end
end Vf

set_option Elab.async false
set_option linter.all false
set_option maxRecDepth 100000
set_option maxHeartbeats 4000000
namespace Vf
open PySem PySem.Spec PyProof.Rows L2 L2H TL
/-! ### list.count over bools -/
def bEq (k : Bool) : Value → Bool
  | .bool b => b == k
  | _ => false
def rCntB (K : PySem.W.Frag) : V → List V → Hp → VK → Prop := fun x xs H Q => ∃ (p : Addr) (bs : List Bool) (k : Bool), x = .ref p ∧ xs = [.bl k] ∧ SqL K H p (bs.map V.bl) ∧ Q (.int (bs.count k : Nat)) H
theorem bools_of : ∀ {bs : List Bool} {its : List Value}, Vals (bs.map V.bl) its → its = bs.map Value.bool
  | [], _, r => by cases r; rfl
  | b :: bs, _, r => by
    cases r with
    | cons a t =>
      have e : _ = Value.bool b := a
      rw [e, bools_of t]; rfl
theorem count_bools (k : Bool) : ∀ bs : List Bool, (bs.map Value.bool).countP (bEq k) = bs.count k
  | [] => rfl
  | b :: bs => by
    rw [List.map_cons, List.countP_cons, List.count_cons, count_bools k bs]
    rfl
section
variable {X : Cx}
theorem mt_bcount : MtR X "list.count" (rCntB X.K) := by
  intro pins s σ H x xs v us Q I rx rxs h
  obtain ⟨p, bs, k, rfl, rfl, hs, q⟩ := h
  cases rx
  obtain ⟨u, rfl, ru⟩ := rxs.one
  have eu : u = Value.bool k := ru
  subst eu
  obtain ⟨its, rv, ⟨⟨cls, dd, data, sl⟩, n, ho, hc, hdn, hd⟩, hlen⟩ := I.list hs
  simp only at hc hd
  subst hc hd
  have ei := bools_of rv
  subst ei
  refine call_meets PySem.F.slot_list_count ⟨_, ho, rfl⟩ PySem.F.entry_list_count (PySem.F.args_list_count_2 _ _)
    (SeqAt.list_countAt p (bs.map Value.bool).toArray n dd sl (.bool k) (bEq k)) ⟨ho, fun y hy => ?_, ?_⟩
  · obtain ⟨b, _, rfl⟩ := List.mem_map.mp (by simpa only [List.mem_toArray] using hy)
    exact PySem.SeqAt.EqAt.bool_bool b k
  · have ec : (bs.map Value.bool).toArray.toList.countP (bEq k) = bs.count k := count_bools k bs
    refine ⟨.int (bs.count k : Nat), H, I.tok _, ⟨s.toks, ?_⟩, q⟩
    rw [ec]
end
/-! ### an own error made where none is handled, its context noted -/
theorem pmkN_oex {X : Cx} {x : Str} {e : Expr} {es : List Expr} {ta : TA} {p pos : Pos} {C fI : Addr} {k : Nat} {fd : FuncData} {ps : List Str} {sp : Sp} (T : OexC X.K C) (iC : PySem.W.findIn X.K (.ref C) "__init__" = some (some (.ref fI))) (tI : PySem.W.typeIn X.K (.ref fI) = some (.type "function"))
    (F1 : FnOk X.prog X.w X.K X.mg X.base CX0 k fI fd ps sp) (hr : Room (k + 1) X.A) (hb : Binds X.K fd ps []) (hg : Gl X x) (hm : X.mg x = some (.ref C)) (ha : PA X (e :: es) ta)
    (hdb : (x == ("__debug__" : Str)) = false := by decide) (he : starEach (e :: es) X.env = (false, eval e X.env) :: starEach es X.env := by rfl) (hpl : (backTo pos (starEach es X.env)).any (·.1) = false := by rfl) :
    L2N.PMk X (.Call (.Name x p) (e :: es) [] pos) (tMkO C sp [] ta) := by
  intro pins s σ H Q I h
  obtain ⟨nm, q, N, bs, bm, sn, sub, ab, col, dd, k0, k1, k2, k3, k5, hC, hbm⟩ := T.cls
  refine wpAny_Call_Name_kw (ld_glob I hg hm ?_ hdb)
  refine PySem.W.callWith_K (h₀ := X.base) I.ok.mod.kin T.kC (thn (ha.run pos pins s σ H _ I h) fun us s1 ⟨vs, H1, I1, r1, hz, q1⟩ => ⟨I1.kIn, ?_⟩) he hpl
  show wpAny _ _ (call (.ref C) us) _ _ _
  obtain ⟨hp, g, dr, tk, os⟩ := s1
  have lt1 : hp.objs.size ≤ hp.objs.size + 1 := Nat.le_succ _
  have nx : H1 (hp.objs.size + 1) = none := I1.hok.fresh lt1
  have hq := q1 (hp.objs.size + 1) nx
  rw [List.append_nil] at hq
  have k2 : ∀ b o, hp.get? b = some o → ((hp.push (PySem.W.kdv_tup us)).push (PySem.HandSPX.excO C hp.objs.size)).get? b = some o := fun b o e => Heap.get?_push_of_some _ (Heap.get?_push_of_some _ e)
  have at1 : ((hp.push (PySem.W.kdv_tup us)).push (PySem.HandSPX.excO C hp.objs.size)).get? (hp.objs.size + 1) = some (PySem.HandSPX.excO C hp.objs.size) := by heap_get
  have J := I1.laid (t' := tk) (a := hp.objs.size + 1) (o := exo (hp.objs.size + 1) C none) (h' := (hp.push (PySem.W.kdv_tup us)).push (PySem.HandSPX.excO C hp.objs.size)) k2 lt1 (exo_ok at1)
  have rr : Vals (V.ref (hp.objs.size + 1) :: vs) (Value.ref (hp.objs.size + 1) :: us) := .cons rfl r1
  have len1 : (Value.ref (hp.objs.size + 1) :: us ++ []).length = ps.length := by
    rw [List.append_nil, ← rr.length]
    exact F1.len _ _ _ _ hq
  have short : us.length ≤ sizeLine := by rw [← Paired.length r1, sizeLine_eq]; omega
  have bb := hb _ (Value.ref (hp.objs.size + 1) :: us) J.kIn len1
  rw [List.append_nil] at bb
  refine wpAny_call (PySem.HandSPX.call_own F.excBase_ValueError (fun Y => PySem.HandSPX.refsVE_contains Y bm hbm) (I1.kIn _ _ hC) (PySem.W.looks_findIn I1.kIn iC) (fun self => PySem.W.bind_fn I1.kIn self tI) short
    (codeAny_mono (F1.run _ X.stack _ _ ⟨Value.ref (hp.objs.size + 1) :: us, []⟩ (Value.ref (hp.objs.size + 1) :: us) _ _ (fun _ _ _ => False) (hr.make C us []) (J.env0.make C us []) bb rr hq) fun r s' hq' => ?_))
  cases r with
  | error er => exact hq'.elim
  | ok fl =>
    cases fl with
    | ret u =>
      obtain ⟨v, H2, os2, bare2, un2, hok2, rv, ev, d, fs, ea, ed, hd1, q2⟩ := hq'
      subst ev
      obtain ⟨h2, g2, d2, t2, os'⟩ := s'
      obtain ⟨t0, G, J2, kG, ge, hoe, na⟩ := mk_end0 (d2 := d2) (t2 := t2) I1 lt1 k2 un2 hok2 os2 bare2 ea ed hd1
      exact ⟨rv, hp.objs.size + 1, _, _, ⟨G, g2, d2, t2, os'⟩, _, .ref C, some d, rfl, J2, kG, ge, hoe, ⟨rfl, rfl, fun vs hv => by cases hv; rfl⟩, rfl, rfl, na, rfl, bare2, raises_own T.exC T.tyC, q2⟩
    | next => exact hq'.elim
    | brk => exact hq'.elim
    | cont => exact hq'.elim
/-- a def that may raise, its exceptions' contexts noted -/
theorem okN {P : Program} {w : World} {K : PySem.W.Frag} {mg : Str → Option Value} {base : Heap} {x qual : Str} {st : Stmt} {f : Addr} {fd : FuncData} {N ps : List Str} {k : Nat} {sp : Sp} (F : L2.Fun K x qual st f fd) (S : FnScope N ps (defScope st)) (len : ∀ vs H Q E, sp vs H Q E → vs.length = ps.length)
    (body : ∀ (cdv : Value) (A : Around) (outer : List Env) (s : Shared) (H : Hp) (vs : List V) (Q : VK) (E : XK), Room k (A.deeper (envOfC qual (defScope st) s.heap.objs.size f cdv)) → sp vs H Q E →
      ∃ t, PSs (cxOf (L2N.CX P w) P w K mg base N qual (defScope st) f cdv A outer s H E) (defBody st) t ∧ t { nx := fun _ H' => Q .non H', rt := Q } (L2.start N vs) H) : FnOk P w K mg base (L2N.CX P w) (k + 1) f fd ps sp := by
  obtain ⟨oc, od, kV, doc, pm, an, cdv, ct, osl, rfl, lk, hcd⟩ := F.ex
  exact fn_of lk hcd S len fun A outer s H vs Q E hr hsp => body cdv A outer s H vs Q E hr hsp
/-! ### C(v), __init__ keeps its one field -/
def spInit1 (C : Addr) (f : Str) : Sp := fun vs H Q _ => ∃ (a : Addr) (y : V), vs = [.ref a, y] ∧ H a = some (exo a C none) ∧
  ∀ dx, H dx = none → dx ≠ a → Q .non (upd (upd H dx (exd dx [(f, y)])) a (exo a C (some dx)))
section
variable {P : Program} {w : World} {K : PySem.W.Frag} {mg : Str → Option Value} {base : Heap}
theorem ok_TooWide (T : Txt K mg) : FnOk P w K mg base CX0 1 T.i_TooWide T.d_TooWide ["self", "part"] (spInit1 T.c_TooWide "part") := by
  refine T.E_TooWide.F.ok sc_TooWide_init (fun vs H Q E h => ?_) (fun cdv A outer s H vs Q E hr h => ?_)
  · obtain ⟨a, y, rfl, _⟩ := h
    rfl
  · obtain ⟨a, y, rfl, ea, q⟩ := h
    refine ⟨_, pss_one (ps_ost (pv 0) (pv 1)), ?_⟩
    exact ⟨_, rfl, _, rfl, a, T.c_TooWide, rfl, T.E_TooWide.O, T.E_TooWide.no "part" (by simp), .inl ⟨ea, fun dx nd ne => q dx nd ne⟩⟩
end
/-- what the raise of C(y) leaves -/
theorem raise1 {C : Addr} {f : Str} {y : V} {H : Hp} {E : XK} (q : ∀ H' d, Same H H' → H' d = some (.xd [(f, y)]) → E (.ref C) (some d) H') :
    [y].length ≤ 1000 ∧ ∀ a, H a = none → spInit1 C f (.ref a :: ([y] ++ [])) (upd H a (exo a C none))
      (fun v H2 => v = .non ∧ ∃ (d : Addr) (fs : List (Str × V)), H2 a = some (exo a C (some d)) ∧ H2 d = some (exd d fs) ∧ H d = none ∧ E (.ref C) (some d) (upd (del H2 a) d (.xd fs))) (fun _ _ _ => False) := by
  refine ⟨by show 1 ≤ 1000; decide, fun a na => ⟨a, y, rfl, upd_same, fun dx nd ne => ⟨rfl, dx, _, upd_same, by rw [upd_ne ne]; exact upd_same, by rw [upd_ne ne] at nd; exact nd, q _ _ (fun b o e => ?_) upd_same⟩⟩⟩
  have nd2 : H dx = none := by rw [upd_ne ne] at nd; exact nd
  have hb1 : b ≠ a := ne_of_none e na
  have hb2 : b ≠ dx := ne_of_none e nd2
  rw [upd_ne hb2, del_ne hb1, upd_ne hb1, upd_ne hb2, upd_ne hb1]
  exact e
end Vf

set_option Elab.async false
set_option linter.all false
set_option maxRecDepth 100000
set_option maxHeartbeats 4000000
namespace Vf
open PySem PySem.Spec PyProof.Rows L2 TL LamX
/-- a total and its way, or none -/
def LwT (H : Hp) (v : V) (us : List V) (f g : Nat → Option Nat) (m : Nat) : Prop := match f m with
  | none => v = .non
  | some y => ∃ B p, v = .ref B ∧ H B = some (.tup [nV y, .ref p]) ∧ H p = some (.tup ((Rw g m).reverse.map fun u => us.getD u .non))
def ttLwT (tl : V → Hp → VK → Prop) (v0 : V) (H : Hp) (Q : VK) : Prop := ∃ (a : Addr) (us : List V) (ps : List (Nat × Nat)) (as : List Arc), v0 = .ref a ∧ H a = some (.tup us) ∧ LV (FgV H) us ps ∧ Inj ps ∧ NetT ps.length as ∧
  (∀ (i : Nat) (x : V) (H' : Hp) (Q' : VK), i + 1 < ps.length → us[i]? = some x → Same H H' → (∀ H'' b vs, Same H' H'' → H' b = none → H'' b = some (.lst vs) → LV (CoV H'' ps) vs (adjT as i) → Q' (.ref b) H'') → tl x H' Q') ∧
  ∀ (H' : Hp) (v : V) (f g : Nat → Option Nat), Same H H' → Bd (· ∈ as) f g → LwT H' v us f g (ps.length - 1) → Q v H'
theorem at_lastT {xs : List V} {x : V} {n : Nat} (hl : xs.length = n + 1) (e : xs[n]? = some x) : atI xs (-1) = some x := by
  have e2 : xs = xs.take n ++ [x] := by
    have h3 := List.take_append_drop n xs
    have h4 : xs.drop n = [x] := by
      rw [List.drop_eq_getElem_cons (by omega)]
      have h5 := List.getElem?_eq_some_iff.mp e
      rw [h5.2, List.drop_eq_nil_of_le (by omega)]
    rw [h4] at h3
    exact h3.symm
  rw [e2]
  exact atI_last _ _
section
variable {P : Program} {w : World} {K : PySem.W.Frag} {mg : Str → Option Value} {base : Heap}
theorem gives_lwT (T : Txt K mg) (kl : Nat) (q : Str) (cdv : Value) : GivesS P w K mg base kl 1 ["places", "leads", "bounds", "tails", "way"] "least_way_along" (defScope s_least_way_along) T.a_least_way_along cdv (defBody s_least_way_along) q ttLwT := by
  intro A outer s H f c' v0 Q tl hr Lv hc htt
  obtain ⟨oc2, od2, kV2, doc2, pm2, an2, cdv2, ct2, osl2, efd2, lk2, hcd2⟩ := T.D_bounds_and_tails.F.ex
  have hb2 := T.D_bounds_and_tails.B
  rw [efd2] at lk2 hb2
  obtain ⟨a, us, ps, as, rfl, ea, lv, inj, ok, hl, q⟩ := htt
  have hn := ok.1
  have n500 := ok.2.1
  have lvn := lv.1
  have up : ∀ a ∈ as, a.1 < a.2.1 := fun a h => (ok.2.2.1 a h).1
  have eg : ∀ u, u < ps.length → ∃ p b, ps[u]? = some p ∧ us.getD u .non = .ref b ∧ H b = some (.tup [nV p.1, nV p.2]) := fun u hu => by
    obtain ⟨x, ex, b, rfl, eb⟩ := lv.2 u _ (List.getElem?_eq_getElem hu)
    exact ⟨_, b, List.getElem?_eq_getElem hu, by rw [List.getD_eq_getElem?_getD, ex]; rfl, eb⟩
  obtain ⟨pl, bl, epl, evl, ebl⟩ := eg (ps.length - 1) (by omega)
  refine ⟨_, (pss_cons (ps_asg (pe_passS (i := 1) (k := kl) (j := 0) (c' := c') (TT := ttBtT) Lv (hr.mono (by omega)) (by rfl) T.D_bounds_and_tails.G T.D_bounds_and_tails.F.kp lk2 hcd2 hb2 sc_bounds_and_tails (gives_btT T kl 0 _ _) (pv 0) rfl (Or.inl rfl)) (pg_tup (by rfl) (pgs_cons (pg_name (i := 2) sc_least_way_along.nd rfl (.inl rfl)) (pgs_cons (pg_name (i := 3) sc_least_way_along.nd rfl (.inl rfl)) pgs_nil))))
      (pss_cons (ps_if (pt_cmp (pc_dnotin (hu1 hr) (pe_ix ix_tup (pv 0) (pe_un un_neg pe_int) (fun _ _ => rfl)) (pv 2))) (pss_one (ps_ret pe_non)) pss_nil)
      (pss_cons (ps_set (i := 4) sc_least_way_along.nd rfl (.inl rfl) (pe_lst (pa_cons (pe_ix ix_tup (pv 0) (pe_un un_neg pe_int) (fun _ _ => rfl)) pa_nil)))
      (pss_cons (ps_while PassesOwn.never (pt_cmp (pc_din (hu1 hr) (pe_ix ix_list (pv 4) (pe_un un_neg pe_int) (fun _ _ => rfl)) (pv 3))) (pss_one (ps_expr (pe_bm PySem.F.plainAttrs_list PySem.F.slot_list_append PySem.F.type_list_append mt_append (pv 4) (pa_cons (pe_dget (hu1 hr) (pv 3) (pe_ix ix_list (pv 4) (pe_un un_neg pe_int) (fun _ _ => rfl)) (fun _ _ => rfl)) pa_nil)))))
      (pss_one (ps_ret (pe_tup (pa_cons (pe_dget (hu1 hr) (pv 2) (pe_ix ix_tup (pv 0) (pe_un un_neg pe_int) (fun _ _ => rfl)) (fun _ _ => rfl)) (pa_cons (pe_callTy call_tuple_of (by rfl) T.n_tuple (by decide +kernel) (pa_cons (pe_revL (pv 4)) pa_nil)) pa_nil))))))))), ?_⟩
  refine ⟨_, rfl, rfl, hc, a, us, ps, as, rfl, ea, lv, inj, ok, hl, fun H1 B D1 D2 f1 g1 N k1 eB b1 t1 bd => ?_⟩
  refine ⟨B, _, rfl, SqT.of eB, rfl, _, _, rfl, _, _, rfl, rfl, ?_⟩
  have la : us.length = (ps.length - 1) + 1 := by omega
  have ga : atI us (-1) = some (.ref bl) := at_lastT la (by
    rw [List.getD_eq_getElem?_getD, List.getElem?_eq_getElem (by omega)] at evl
    rw [List.getElem?_eq_getElem (by omega)]
    exact congrArg some evl)
  have ea1 := k1 _ _ ea
  have gb := b1.get epl (k1 _ _ ebl)
  have dn := bd.dn up
  refine ⟨_, rfl, 1, rfl, a, _, -1, _, rfl, rfl, SqT.of ea1, ga, _, rfl, D1, _, rfl, gb, ?_⟩
  cases hf : f1 (ps.length - 1) with
  | none => exact ⟨true, rfl, q H1 .non f1 g1 k1 bd (by unfold LwT; rw [hf])⟩
  | some y =>
    refine ⟨false, rfl, ?_⟩
    refine ⟨_, rfl, 1, rfl, a, _, -1, _, rfl, rfl, SqT.of ea1, ga, by show 1 ≤ sizeLine; decide, fun W nW => ?_⟩
    have k2 := same_upd (o := .lst [V.ref bl]) k1 nW
    have nWH := Same.free k1 nW
    have eW : upd H1 W (.lst [V.ref bl]) W = some (.lst ((([] : List Nat) ++ [ps.length - 1]).map fun u => us.getD u .non)) := by rw [upd_same, ← evl]; rfl
    have nD1 : D1 ≠ W := by
      obtain ⟨kvs, h1, _⟩ := b1
      exact ne_of_none h1 nW
    have nD2 : D2 ≠ W := by
      obtain ⟨kvs, h1, _⟩ := t1
      exact ne_of_none h1 nW
    have b2 : BdT (upd H1 W (.lst [V.ref bl])) D1 N ps nV f1 := b1.keep fun o e => by rw [upd_ne nD1]; exact e
    have t2 : BdT (upd H1 W (.lst [V.ref bl])) D2 N ps (fun u => us.getD u .non) g1 := t1.keep fun o e => by rw [upd_ne nD2]; exact e
    generalize upd H1 W (.lst [V.ref bl]) = H2 at k2 eW b2 t2
    refine ⟨fun m σ H' => ∃ (pre : List Nat) (u : Nat), m = u ∧ σ = [some (.ref a), some (.ref f), some (.ref D1), some (.ref D2), some (.ref W)] ∧ Same H H' ∧ BdT H' D1 N ps nV f1 ∧ BdT H' D2 N ps (fun u => us.getD u .non) g1 ∧ H' W = some (.lst ((pre ++ [u]).map fun u => us.getD u .non)) ∧ Rw g1 (ps.length - 1) = pre ++ Rw g1 u ∧ pre.length + u ≤ ps.length ∧ u < ps.length, ⟨_, [], ps.length - 1, rfl, rfl, k2, b2, t2, eW, rfl, by show 0 + (ps.length - 1) ≤ ps.length; omega, by omega⟩, fun m σ H3 hW => ?_⟩
    obtain ⟨pre, u, rfl, rfl, k3, b3, t3, eW3, hR, hlen, hm⟩ := hW
    obtain ⟨pm, bm, epm, evm, ebm⟩ := eg m hm
    have gw : atI ((pre ++ [m]).map fun u => us.getD u .non) (-1) = some (.ref bm) := by rw [List.map_append, ← evm]; exact atI_last _ _
    have gt := t3.get epm (k3 _ _ ebm)
    refine ⟨_, rfl, 1, rfl, W, _, -1, _, rfl, rfl, SqL.of eW3, gw, _, rfl, D2, _, rfl, gt, ?_⟩
    cases hg : g1 m with
    | none =>
      refine ⟨false, rfl, ?_⟩
      rw [Rw_none hg] at hR
      have gb3 := b3.get epl (k3 _ _ ebl)
      rw [hf] at gb3
      refine ⟨_, rfl, _, rfl, 1, rfl, a, _, -1, _, rfl, rfl, SqT.of (k3 _ _ ea), ga, D1, _, rfl, gb3, ?_⟩
      refine ⟨_, rfl, W, _, rfl, SqL.of eW3, fun R nR => ?_⟩
      have k4 := same_upd (o := .lst ((pre ++ [m]).map fun u => us.getD u .non).reverse) k3 nR
      have eR : upd H3 R (.lst ((pre ++ [m]).map fun u => us.getD u .non).reverse) R = some (.lst ((Rw g1 (ps.length - 1)).reverse.map fun u => us.getD u .non)) := by rw [upd_same, hR, List.map_reverse]
      generalize upd H3 R (.lst ((pre ++ [m]).map fun u => us.getD u .non).reverse) = H4 at k4 eR
      refine ⟨R, _, rfl, .inl ⟨SqL.of eR, fun p np => ?_⟩⟩
      have k5 := same_upd (o := .tup ((Rw g1 (ps.length - 1)).reverse.map fun u => us.getD u .non)) k4 np
      have ep : upd H4 p (.tup ((Rw g1 (ps.length - 1)).reverse.map fun u => us.getD u .non)) p = some (.tup ((Rw g1 (ps.length - 1)).reverse.map fun u => us.getD u .non)) := upd_same
      generalize upd H4 p (.tup ((Rw g1 (ps.length - 1)).reverse.map fun u => us.getD u .non)) = H5 at k5 ep
      refine ⟨by show 2 ≤ sizeLine; decide, fun C nC => ?_⟩
      refine q _ (.ref C) f1 g1 (same_upd k5 nC) bd ?_
      unfold LwT
      rw [hf]
      exact ⟨C, p, rfl, upd_same, by rw [upd_ne (ne_of_none ep nC)]; exact ep⟩
    | some u =>
      rw [hg] at gt
      have hu := dn m u hg
      refine ⟨true, rfl, ?_⟩
      refine ⟨fun σ H' => ∃ (pre : List Nat) (u : Nat), u < m ∧ σ = [some (.ref a), some (.ref f), some (.ref D1), some (.ref D2), some (.ref W)] ∧ Same H H' ∧ BdT H' D1 N ps nV f1 ∧ BdT H' D2 N ps (fun u => us.getD u .non) g1 ∧ H' W = some (.lst ((pre ++ [u]).map fun u => us.getD u .non)) ∧ Rw g1 (ps.length - 1) = pre ++ Rw g1 u ∧ pre.length + u ≤ ps.length ∧ u < ps.length, fun σ' H' hN => ?_, ?_⟩
      · obtain ⟨pre', u', l1, r⟩ := hN
        exact ⟨u', l1, pre', u', rfl, r⟩
      refine ⟨.ref W, rfl, .inl ⟨rfl, _, .inl (.inl eW3)⟩, _, rfl, _, rfl, 1, rfl, W, _, -1, _, rfl, rfl, SqL.of eW3, gw, D2, _, rfl, gt, ?_⟩
      refine ⟨W, _, _, rfl, rfl, eW3, by rw [List.length_map, List.length_append]; show pre.length + 1 < _; exact szN (by omega), ?_⟩
      refine ⟨pre ++ [m], u, hu, rfl, same_mut k3 nWH, b3.keep fun o e => by rw [upd_ne nD1]; exact e, t3.keep fun o e => by rw [upd_ne nD2]; exact e, ?_, ?_, by rw [List.length_append]; show pre.length + 1 + u ≤ ps.length; omega, by omega⟩
      · rw [upd_same, List.map_append (l₁ := pre ++ [m])]; rfl
      · rw [hR, Rw_some dn hg, List.append_assoc]; rfl
end
end Vf

set_option Elab.async false
set_option linter.all false
set_option maxRecDepth 100000
set_option maxHeartbeats 4000000
namespace Vf
open PySem PySem.Spec PyProof.Rows L2 TL LamX
abbrev lamQ : Str := (envOfC "least_lines" (defScope s_least_lines) 0 0 .none).qual ++ "<lambda>"
abbrev lamB : Str := (envOfC "bounds_of" (defScope s_bounds_of) 0 0 .none).qual ++ "<lambda>"
theorem two_u1 {P1 P2 : Addr} {q1 q2 : Str} (h : P1 ≠ P2) : ∀ p ∈ [(P1, q1), (P2, q2)], p.1 = P1 → p.2 = q1 := fun p hp e => by
  rcases List.mem_cons.mp hp with rfl | hp
  · rfl
  · rw [List.mem_singleton.mp hp] at e; exact absurd e.symm h
theorem two_u2 {P1 P2 : Addr} {q1 q2 : Str} (h : P1 ≠ P2) : ∀ p ∈ [(P1, q1), (P2, q2)], p.1 = P2 → p.2 = q2 := fun p hp e => by
  rcases List.mem_cons.mp hp with rfl | hp
  · exact absurd e h
  · rw [List.mem_singleton.mp hp]
def atQ (S : Sty) (Z : List (List Nat)) (j : Nat) : Nat × Nat := (posL S Z).getD j (0, 0)
/-- the places of a way -/
def WayV (S : Sty) (Z : List (List Nat)) (H : Hp) (p : Addr) (ns : List Nat) : Prop := ∃ vs, H p = some (.tup vs) ∧ LV (FgV H) vs (ns.map (atQ S Z))
theorem WayV.kt {S : Sty} {Z : List (List Nat)} {H H' : Hp} {p : Addr} {ns : List Nat} (h : WayV S Z H p ns) (k : ∀ a xs, H a = some (.tup xs) → H' a = some (.tup xs)) : WayV S Z H' p ns := by
  obtain ⟨vs, e, l⟩ := h
  exact ⟨vs, k _ _ e, l.mono fun _ _ z => z.kt k⟩
theorem Rw_in {f g : Nat → Option Nat} {as : List Arc} (B : Bd (· ∈ as) f g) (up : ∀ a ∈ as, a.1 < a.2.1) : ∀ n v, v ≤ n → ∀ j ∈ Rw g v, j ≤ v
  | 0, v, h, j, hj => by
    have : v = 0 := by omega
    subst this
    rw [Rw_none B.z.2] at hj
    exact Nat.le_of_eq (List.mem_singleton.mp hj)
  | n + 1, v, h, j, hj => by
    cases e : g v with
    | none =>
      rw [Rw_none e] at hj
      exact Nat.le_of_eq (List.mem_singleton.mp hj)
    | some u =>
      have hu := B.dn up v u e
      rw [Rw_some (B.dn up) e] at hj
      rcases List.mem_cons.mp hj with hj | hj
      · omega
      · have := Rw_in B up n u (by omega) j hj
        omega
section
variable {P : Program} {w : World} {K : PySem.W.Frag} {mg : Str → Option Value} {base : Heap}
def spLeast (Pt Pb tw : Addr) : Sp := fun vs H Q E => ∃ (sa : Addr) (us : List V) (S : Sty) (Z : List (List Nat)) (M L : Nat) (f g : Nat → Option Nat), vs = [nV M, nV L, .ref sa] ∧ H sa = some (.tup us) ∧ LV (ShV S H) us Z ∧ WdsOk S Z ∧ (posL S Z).length ≤ 91 ∧ M ≤ 1000000 ∧ Tabs [(Pt, lamQ), (Pb, lamB)] H ∧ Bd (· ∈ netQ M L S Z) f g ∧
  (∀ y, f ((posL S Z).length - 1) = some y → ∀ H' p, ExtN H H' → Tabs [(Pt, lamQ), (Pb, lamB)] H' → WayV S Z H' p (Rw g ((posL S Z).length - 1)).reverse → Q (.ref p) H') ∧
  (f ((posL S Z).length - 1) = none → ∀ H' d, ExtN H H' → Tabs [(Pt, lamQ), (Pb, lamB)] H' → H' d = some (.xd [("part", .str "word")]) → E (.ref tw) (some d) H')
theorem ok_least (T : Txt K mg) {c Pt : Addr} (hcode : T.d_least_lines.code = .ref c) (TB : TabB base mg c Pt) {Pb : Addr} (hne : Pt ≠ Pb) : FnOk P w K mg base (L2N.CX P w) 7 T.a_least_lines T.d_least_lines ["measure", "ladder", "shapes"] (spLeast Pt Pb T.c_TooWide) := by
  have G_positions : FnOk P w K mg base CX0 1 T.a_positions T.d_positions ["shapes"] spPositions := ok_positions T
  have G_lines_from : FnOk P w K mg base CX0 3 T.a_lines_from T.d_lines_from ["measure", "ladder", "shapes", "begin"] spLines := ok_lines T
  obtain ⟨oc, od, kV, doc, pm, an, cdv, ct, osl, efd, lk, hcd⟩ := T.D_least_lines.F.ex
  obtain ⟨oc2, od2, kV2, doc2, pm2, an2, cdv2, ct2, osl2, efd2, lk2, hcd2⟩ := T.D_least_way_along.F.ex
  have hb2 := T.D_least_way_along.B
  rw [efd2] at lk2 hb2
  rw [efd] at lk hcode
  rw [efd]
  have hcdv : cdv = .ref c := hcode
  subst hcdv
  refine fn_of lk hcd sc_least_lines (fun vs H Q E h => ?_) (fun A outer s H vs Q E hr h => ?_)
  · obtain ⟨_, _, _, _, _, _, _, _, rfl, _⟩ := h
    rfl
  · obtain ⟨sa, us, S, Z, M, L, f, g, rfl, es, lv, ok, l91, hM, hT, bd, qS, qE⟩ := h
    suffices h : ∃ t, PSs (cxOf (L2N.CX P w) P w K mg base ["measure", "ladder", "shapes", "least", "begin"] "least_lines" (defScope s_least_lines) T.a_least_lines (.ref c) A outer s H E) (defBody s_least_lines) t ∧ t { nx := fun _ H' => Q .non H', rt := Q } (L2.start ["measure", "ladder", "shapes", "least", "begin"] [nV M, nV L, .ref sa]) H by
      exact h
    refine ⟨_, (pss_cons (ps_set (i := 3) sc_least_lines.nd rfl (.inl rfl) (pe_lamcallS (k := 3) (j := 1) (ip := 4) (T := [(Pt, lamQ), (Pb, lamB)]) (TT := ttLwT) (by rfl) T.D_least_way_along.G T.D_least_way_along.F.kp lk2 hcd2 hb2 sc_least_way_along (gives_lwT T 3 _ _) (pe_call G_positions (hr.mono (by decide)) (by rfl) T.D_positions.G T.D_positions.F.kp T.D_positions.B .nil pass0 (pa_cons (pv 2) pa_nil)) TB rfl List.mem_cons_self (two_u1 hne) (hr.mono (by decide)) (lamP_by (sc := defScope s_least_lines) (N := ["measure", "ladder", "shapes", "least", "begin"]) (p := "begin") (by decide +kernel)) rfl (fun _ _ _ _ _ _ => rfl) (fun A outer s H f c' hr2 => pe_call G_lines_from hr2 (by rfl) T.D_lines_from.G T.D_lines_from.F.kp T.D_lines_from.B .nil pass0 (pa_cons (pv 0) (pa_cons (pv 1) (pa_cons (pv 2) (pa_cons (pv 4) pa_nil)))))))
      (pss_cons (ps_if (pt_cmpR op_isN (pv 3) pe_non (nomark _)) (pss_one (L2N.ps_raise rfl (L2N.takes_of rfl rfl rfl rfl) (pmkN_oex T.E_TooWide.O T.E_TooWide.I T.E_TooWide.TI (ok_TooWide T) (hr.mono (by decide)) T.E_TooWide.B (by rfl) T.E_TooWide.G (pa_cons pe_str pa_nil)))) pss_nil)
      (pss_one (ps_ret (pe_ix ix_tup (pv 3) pe_int (fun _ _ => rfl)))))), ?_⟩
    refine ⟨_, rfl, sa, us, S, Z, rfl, es, lv, ok, fun H1 pa ps k1 n1 e1 lp => ?_⟩
    have lpn := lp.1
    have up : ∀ a ∈ netQ M L S Z, a.1 < a.2.1 := fun a h => (netQ_up a h).1
    refine ⟨hT.ext k1, fun H2 x2 T2 => ?_⟩
    have x12 := (ExtN.of k1).trans x2
    have tx : ∀ {H H' : Hp}, ExtN H H' → ∀ a xs, H a = some (.tup xs) → H' a = some (.tup xs) := fun e a xs h => e _ _ h (fun _ z => by cases z)
    have e2 := tx x2 _ _ e1
    have lp2 : LV (FgV H2) ps (posL S Z) := lp.mono fun _ _ z => z.kt (tx x2)
    refine ⟨pa, ps, posL S Z, netQ M L S Z, rfl, e2, lp2, pos_inj S Z, netQ_T l91, fun i x H3 Q' hi hx k3 hq => ?_, fun H3 v f1 g1 k3 bd1 lw => ?_⟩
    · obtain ⟨r, er, b, rfl, eb⟩ := lp2.at hx
      have ⟨h1, h2⟩ := pos_body er hi
      have es3 := k3 _ _ (tx x12 _ _ es)
      refine ⟨_, rfl, _, rfl, _, rfl, _, rfl, sa, b, us, S, Z, M, L, r.1, r.2, rfl, es3, lv.mono fun _ _ z => ShV.kt z fun _ _ e => k3 _ _ (tx x12 _ _ e), ok, hM, k3 _ _ eb, h1, h2, fun H4 l zs k4 nl el lz => ?_⟩
      refine hq H4 l zs k4 nl el ?_
      rw [netQ_adj hi]
      unfold rowQ
      rw [getD_of er, List.map_map]
      refine ⟨by rw [List.length_map]; exact lz.1, fun t q hq => ?_⟩
      rw [List.getElem?_map] at hq
      cases ey : (linesF M L S Z r.1 r.2)[t]? with
      | none => rw [ey] at hq; cases hq
      | some y =>
        rw [ey] at hq
        have hq : (idxQ S Z y.1, y.2) = q := Option.some.inj hq
        subst hq
        obtain ⟨v, ev, b1, b2, rfl, m1, m2⟩ := lz.2 t y ey
        have hy : y ∈ linesF M L S Z r.1 r.2 := List.mem_of_getElem? ey
        unfold linesF at hy
        obtain ⟨y0, hy0, rfl⟩ := List.mem_map.mp hy
        obtain ⟨bi, ebi⟩ := pos_has (after_mem h1 (ends_mem hy0).1)
        have eix : idxQ S Z y0.1 = bi := idxOf_at (pos_inj S Z) ebi
        exact ⟨_, ev, b1, b2, y0.1, rfl, by show (posL S Z)[idxQ S Z y0.1]? = _; rw [eix]; exact ebi, m1, m2⟩
    · obtain ⟨rfl, rfl⟩ := bd_eq bd1 bd up
      have x13 := x12.trans (ExtN.of k3)
      have T3 := T2.ext k3
      have lp3 : LV (FgV H3) ps (posL S Z) := lp2.mono fun _ _ z => z.same k3
      unfold LwT at lw
      cases hf : f1 ((posL S Z).length - 1) with
      | none =>
        rw [hf] at lw
        have lw : v = .non := lw
        subst lw
        refine ⟨_, rfl, rfl, _, rfl, ?_⟩
        exact raise1 fun H' d s2 e => qE hf H' d (x13.trans (ExtN.of s2)) (T3.ext s2) e
      | some y =>
        rw [hf] at lw
        obtain ⟨B, p, rfl, eB, ep⟩ := lw
        refine ⟨_, rfl, rfl, _, rfl, ?_⟩
        refine ⟨_, rfl, B, _, 1, _, rfl, rfl, SqT.of eB, rfl, qS y hf H3 p x13 T3 ⟨_, ep, ?_⟩⟩
        have hin : ∀ j ∈ (Rw g1 ((posL S Z).length - 1)).reverse, j < (posL S Z).length := fun j hj => by
          have := Rw_in bd up ((posL S Z).length - 1) _ (Nat.le_refl _) j (List.mem_reverse.mp hj)
          have := pos_pos (S := S) (Z := Z)
          omega
        generalize (Rw g1 ((posL S Z).length - 1)).reverse = ns at hin
        refine ⟨by rw [List.length_map, List.length_map], fun t r hr => ?_⟩
        rw [List.getElem?_map] at hr
        cases ej : ns[t]? with
        | none => rw [ej] at hr; cases hr
        | some j =>
          rw [ej] at hr
          have hr : atQ S Z j = r := Option.some.inj hr
          subst hr
          have hj := hin j (List.mem_of_getElem? ej)
          have eg : (posL S Z)[j]? = some (posL S Z)[j] := List.getElem?_eq_getElem hj
          obtain ⟨x, ex, h⟩ := lp3.2 j _ eg
          refine ⟨x, by rw [List.getElem?_map, ej]; show some (ps.getD j .non) = _; rw [List.getD_eq_getElem?_getD, ex]; rfl, ?_⟩
          unfold atQ
          rw [getD_of eg]; exact h
end
end Vf

set_option Elab.async false
set_option linter.all false
set_option maxRecDepth 100000
set_option maxHeartbeats 4000000
namespace Vf
open PySem PySem.Spec PyProof.Rows L2 TL
theorem pr_big {S : Sty} (ok : StyOk S) {z : List Nat} {m : Nat} : prA S z m ≤ 999 ∨ True := .inr trivial
section
variable {P : Program} {w : World} {K : PySem.W.Frag} {mg : Str → Option Value} {base : Heap}
def spLC : Sp := fun vs H Q _ => ∃ (sa ba ea : Addr) (us : List V) (S : Sty) (Z : List (List Nat)) (M L i k j m : Nat), vs = [nV M, nV L, .ref sa, .ref ba, .ref ea] ∧ SeqH H sa us ∧ LV (ShV S H) us Z ∧ WdsOk S Z ∧ (∀ z ∈ Z, WdOk z) ∧ H ba = some (.tup [nV i, nV k]) ∧ H ea = some (.tup [nV j, nV m]) ∧ i < Z.length ∧ k ≤ nP S (wz Z i) ∧ ((i = j ∧ k < m ∧ m ≤ nP S (wz Z i)) ∨ (i < j ∧ ((j, m) = (Z.length, 0) ∨ (j < Z.length ∧ m ≤ nP S (wz Z j))))) ∧ M ≤ 1000000 ∧
  ∀ H', Same H H' → Q (oN (if natW S Z i k (j, m) ≤ M then some (costQ M L S Z k (j, m) (natW S Z i k (j, m))) else none)) H'
theorem ok_lc (T : Txt K mg) : FnOk P w K mg base CX0 3 T.a_law_line_cost T.d_law_line_cost ["_law_measure_here", "_law_ladder", "_law_shapes", "_law_start", "_law_end"] spLC := by
  have G_law_natural : FnOk P w K mg base CX0 2 T.a_law_natural T.d_law_natural ["_law_shapes", "_law_start", "_law_end"] spLNat := ok_lnat T
  refine T.D_law_line_cost.F.ok sc_law_line_cost (fun vs H Q E h => ?_) (fun cdv A outer s H vs Q E hr h => ?_)
  · obtain ⟨_, _, _, _, _, _, _, _, _, _, _, _, rfl, _⟩ := h
    rfl
  · obtain ⟨sa, ba, ea, us, S, Z, M, L, i, k, j, m, rfl, es, lv, ok, h16, eb, ee, hi, hk, hjm, hM, q⟩ := h
    have l40 := ok.ln
    have lus := lv.1
    refine ⟨_, (pss_cons (ps_set (i := 5) sc_law_line_cost.nd rfl (.inl rfl) (pe_call G_law_natural (hr.mono (by decide)) (by rfl) T.D_law_natural.G T.D_law_natural.F.kp T.D_law_natural.B .nil pass0 (pa_cons (pv 2) (pa_cons (pv 3) (pa_cons (pv 4) pa_nil)))))
      (pss_cons (ps_if (pt_cmpR op_gt (pv 5) (pv 0) (nomark _)) (pss_one (ps_ret pe_non)) pss_nil)
      (pss_cons (ps_set (i := 6) sc_law_line_cost.nd rfl (.inl rfl) (pe_ifExp (pt_cmpR op_lt (pe_ix ix_tup (pv 4) pe_int (fun _ _ => rfl)) (pe_callB call_len (by rfl) T.n_len PySem.boot_len (pa_cons (pv 2) pa_nil)) (nomark _)) (pe_op op_mul (pe_op op_sub (pv 0) (pv 5)) (pe_op op_sub (pv 0) (pv 5))) pe_int))
      (pss_cons (ps_if (pt_cmpR op_gt (pe_ix ix_tup (pv 4) pe_int (fun _ _ => rfl)) pe_int (nomark _)) (pss_one (ps_set (i := 6) sc_law_line_cost.nd rfl (.inl rfl) (pe_op op_add (pe_op op_add (pv 6) (pe_ix ix_tup (pe_ix ix_tup (pe_ix ix_tup (pe_ix ix_seq (pv 2) (pe_ix ix_tup (pv 4) pe_int (fun _ _ => rfl)) (fun _ _ => rfl)) pe_int (fun _ _ => rfl)) (pe_op op_sub (pe_ix ix_tup (pv 4) pe_int (fun _ _ => rfl)) pe_int) (fun _ _ => rfl)) pe_int (fun _ _ => rfl))) (pe_ifExp (pt_cmpR op_gt (pe_ix ix_tup (pv 3) pe_int (fun _ _ => rfl)) pe_int (nomark _)) (pv 1) pe_int)))) pss_nil)
      (pss_one (ps_ret (pv 6))))))), ?_⟩
    refine ⟨_, rfl, _, rfl, _, rfl, sa, ba, ea, us, S, Z, i, k, j, m, rfl, es, lv, ok, h16, eb, ee, hi, hk, hjm, fun H1 k1 hn => ?_⟩
    have hjl : (j = Z.length ∧ m = 0) ∨ (j < Z.length ∧ m ≤ nP S (wz Z j)) := by
      rcases hjm with ⟨h1, h2, h3⟩ | ⟨_, h | h⟩
      · subst h1; exact .inr ⟨hi, h3⟩
      · exact .inl (Prod.mk.inj h)
      · exact .inr h
    unfold costQ at q
    generalize natW S Z i k (j, m) = n at q hn
    have ee1 := k1 _ _ ee
    have eb1 := k1 _ _ eb
    have es1 := es.same k1
    refine ⟨_, rfl, _, rfl, _, _, rfl, rfl, _, rfl, ?_⟩
    refine ifD (fun c => ?_) (fun c => ?_)
    · have c : (M : Int) < (n : Int) := c
      have := q H1 k1
      rw [if_neg (show ¬ n ≤ M by omega)] at this
      exact this
    · have c : ¬ (M : Int) < (n : Int) := c
      have hle : n ≤ M := by omega
      rw [if_pos hle] at q
      have e0 : ((M : Int) - (n : Int)) * ((M : Int) - (n : Int)) = (((M - n) * (M - n) : Nat) : Int) := by
        rw [Int.natCast_mul]
        congr 1 <;> omega
      refine ⟨_, rfl, ea, _, 0, _, rfl, rfl, SqT.of ee1, rfl, _, rfl, _, us.length, rfl, es1.len, _, _, rfl, rfl, _, rfl, ?_⟩
      refine ifD (fun c2 => ?_) (fun c2 => ?_)
      · have c2 : (j : Int) < (us.length : Int) := c2
        have hj : j < Z.length ∧ m ≤ nP S (wz Z j) := by
          rcases hjl with h | h
          · omega
          · exact h
        rw [if_neg (show ¬ (j, m).1 = Z.length from fun z => by have z : j = Z.length := z; omega)] at q
        refine ⟨_, rfl, _, rfl, _, _, rfl, rfl, _, rfl, _, rfl, _, _, rfl, rfl, _, _, rfl, rfl, .inl (by omega), ?_⟩
        refine ⟨_, rfl, ea, _, 1, _, rfl, rfl, SqT.of ee1, rfl, _, _, rfl, rfl, _, rfl, ?_⟩
        refine ifD (fun c3 => ?_) (fun c3 => ?_)
        · have c3 : (0 : Int) < (m : Int) := c3
          have h0 : 0 < m := by omega
          rw [if_pos (show 0 < (j, m).2 from h0)] at q
          obtain ⟨y, ey, sa2, pa, ws, rfl, e1, e2, pl⟩ := lv.2 j _ (wz_at hj.1)
          obtain ⟨rr, gm⟩ : ∃ rr, (places S (wz Z j))[m - 1]? = some rr := ⟨_, List.getElem?_eq_getElem (by have := hj.2; unfold nP at this; omega)⟩
          obtain ⟨x, ex, b, rfl, ebx⟩ := pl.2 _ _ gm
          have epr : rr.2 = prA S (wz Z j) m := by
            unfold prA
            rw [List.getD_eq_getElem?_getD, gm]; rfl
          rw [show ((j, m) : Nat × Nat).1 = j from rfl, show ((j, m) : Nat × Nat).2 = m from rfl, ← epr] at q
          have em : (m : Int) - 1 = ((m - 1 : Nat) : Int) := by omega
          generalize (M - n) * (M - n) = mm at e0 q
          refine ⟨_, rfl, _, rfl, _, rfl, ea, _, 0, _, rfl, rfl, SqT.of ee1, rfl, es1.rix (atI_nat ey) ?_⟩
          refine ⟨sa2, _, 1, _, rfl, rfl, SqT.of (k1 _ _ e1), rfl, ?_⟩
          refine ⟨_, rfl, ea, _, 1, _, rfl, rfl, SqT.of ee1, rfl, _, _, rfl, rfl, pa, _, _, _, rfl, rfl, SqT.of (k1 _ _ e2), by rw [em]; exact atI_nat ex, ?_⟩
          refine ⟨b, _, 2, _, rfl, rfl, SqT.of (k1 _ _ ebx), rfl, _, _, rfl, rfl, ?_⟩
          refine ⟨_, rfl, ba, _, 1, _, rfl, rfl, SqT.of eb1, rfl, _, _, rfl, rfl, _, rfl, ?_⟩
          refine ifD (fun c4 => ?_) (fun c4 => ?_)
          · have c4 : (0 : Int) < (k : Int) := c4
            rw [if_pos (show 0 < k by omega)] at q
            refine ⟨_, rfl, _, _, rfl, rfl, ?_⟩
            exact ⟨_, rfl, Eq.mp (congrArg (fun v => Q v H1) (congrArg V.int (by rw [e0]; show ((mm + (rr.2 + L) : Nat) : Int) = _; omega))) (q H1 k1)⟩
          · have c4 : ¬ (0 : Int) < (k : Int) := c4
            rw [if_neg (show ¬ 0 < k by omega)] at q
            refine ⟨_, _, rfl, rfl, ?_⟩
            exact ⟨_, rfl, Eq.mp (congrArg (fun v => Q v H1) (congrArg V.int (by rw [e0]; show ((mm + (rr.2 + 0) : Nat) : Int) = _; omega))) (q H1 k1)⟩
        · have c3 : ¬ (0 : Int) < (m : Int) := c3
          rw [if_neg (show ¬ 0 < (j, m).2 from fun z => by have z : 0 < m := z; omega)] at q
          exact ⟨_, rfl, Eq.mp (congrArg (fun v => Q v H1) (congrArg V.int (by rw [e0]; rfl))) (q H1 k1)⟩
      · have c2 : ¬ (j : Int) < (us.length : Int) := c2
        have hj : j = Z.length ∧ m = 0 := by
          rcases hjl with h | h
          · exact h
          · omega
        obtain ⟨rfl, rfl⟩ := hj
        rw [if_pos (show (Z.length, 0).1 = Z.length from rfl)] at q
        refine ⟨_, rfl, ea, _, 1, _, rfl, rfl, SqT.of ee1, rfl, _, _, rfl, rfl, _, rfl, ?_⟩
        refine ifD (fun c3 => absurd (show (0 : Int) < ((0 : Nat) : Int) from c3) (by omega)) (fun _ => ?_)
        exact ⟨_, rfl, q H1 k1⟩
end
end Vf

set_option Elab.async false
set_option linter.all false
set_option maxRecDepth 100000
set_option maxHeartbeats 4000000
namespace Vf
open PySem PySem.Spec PyProof.Rows L2 TL
/-! ### `<` of data -/
def rLtD (K : PySem.W.Frag) : R2 := fun x y H Q => ∃ d e, Dp K H x d ∧ Dp K H y e ∧ PySem.W.alike d e = true ∧ d ≠ .none ∧ min d.depth e.depth ≤ 64 ∧ Q (.bl (PySem.W.dataLt d e)) H
theorem op_ltD {X : Cx} (hu : X.A.units + 65 < cLine) : OpR X (compareOp .Lt) (rLtD X.K) := by
  intro pins s σ H x y v u Q I rx ry h
  obtain ⟨d, e, hd, he, al, nn, dp, q⟩ := h
  obtain ⟨as, r1⟩ := Dp.reads I d x v hd rx
  obtain ⟨bs, r2⟩ := Dp.reads I e y u he ry
  exact PySem.W.lt_data r1 r2 al nn (by omega) ⟨.bl _, H, I, rfl, q⟩
/-! ### a number and a row of pairs -/
def dPr (p : Nat × Nat) : PyData := .tuple [.int (p.1 : Int), .int (p.2 : Int)]
def dRow (ps : List (Nat × Nat)) : PyData := .tuple (ps.map dPr)
def dWy (y : Nat) (ps : List (Nat × Nat)) : PyData := .tuple [.int (y : Int), dRow ps]
theorem al_pr (p q : Nat × Nat) : PySem.W.alike (dPr p) (dPr q) = true := by
  simp only [dPr, PySem.W.alike, PySem.W.alikeAll, Bool.and_self]
theorem al_prs : ∀ ps qs : List (Nat × Nat), PySem.W.alikeAll (ps.map dPr) (qs.map dPr) = true
  | [], _ => by simp only [List.map_nil, PySem.W.alikeAll]
  | _ :: _, [] => by simp only [List.map_nil, List.map_cons, PySem.W.alikeAll]
  | p :: ps, q :: qs => by
    simp only [List.map_cons, PySem.W.alikeAll]
    rw [al_pr, al_prs ps qs]; rfl
theorem al_row (ps qs : List (Nat × Nat)) : PySem.W.alike (dRow ps) (dRow qs) = true := by
  simp only [dRow, PySem.W.alike]
  exact al_prs ps qs
theorem al_wy (y z : Nat) (ps qs : List (Nat × Nat)) : PySem.W.alike (dWy y ps) (dWy z qs) = true := by
  simp only [dWy, PySem.W.alike, PySem.W.alikeAll, Bool.true_and, Bool.and_true]
  exact al_row ps qs
theorem dep_prs : ∀ ps : List (Nat × Nat), PyData.depthAll (ps.map dPr) ≤ 1
  | [] => Nat.zero_le _
  | p :: ps => by
    have := dep_prs ps
    simp only [List.map_cons, PyData.depthAll, dPr, PyData.depth]
    omega
theorem dep_wy (y : Nat) (ps : List (Nat × Nat)) : (dWy y ps).depth ≤ 64 := by
  have := dep_prs ps
  simp only [dWy, dRow, PyData.depth, PyData.depthAll]
  omega
theorem lt_wy_less {y z : Nat} {ps qs : List (Nat × Nat)} (h : y < z) : PySem.W.dataLt (dWy y ps) (dWy z qs) = true := by
  unfold dWy
  rw [PySem.W.dataLt_pair (by simp only [PySem.W.alike]) (al_row ps qs), if_neg (by simp only [PyData.eqv, beq_iff_eq]; omega), PySem.W.dataLt_int]
  exact decide_eq_true (by omega)
theorem lt_wy_more {y z : Nat} {ps qs : List (Nat × Nat)} (h : z < y) : PySem.W.dataLt (dWy y ps) (dWy z qs) = false := by
  unfold dWy
  rw [PySem.W.dataLt_pair (by simp only [PySem.W.alike]) (al_row ps qs), if_neg (by simp only [PyData.eqv, beq_iff_eq]; omega), PySem.W.dataLt_int]
  exact decide_eq_false (by omega)
theorem eqv_pr_self (p : Nat × Nat) : PyData.eqv (dPr p) (dPr p) = true := by
  simp only [dPr, PyData.eqv, PyData.eqvAll, beq_self_eq_true, Bool.and_self]
/-- the same number, the same first pair, then a greater one -/
theorem lt_wy_later {y : Nat} {p q q' : Nat × Nat} {ps qs : List (Nat × Nat)} (h : q'.1 < q.1 ∨ (q'.1 = q.1 ∧ q'.2 < q.2)) : PySem.W.dataLt (dWy y (p :: q :: ps)) (dWy y (p :: q' :: qs)) = false := by
  unfold dWy
  rw [PySem.W.dataLt_pair (by simp only [PySem.W.alike]) (al_row _ _), if_pos (by simp only [PyData.eqv, beq_self_eq_true])]
  have hr : PySem.W.dataLt (dRow (p :: q :: ps)) (dRow (p :: q' :: qs)) = false := by
    unfold dRow
    rw [PySem.W.dataLt_tuple, List.map_cons, List.map_cons, List.map_cons, List.map_cons, PySem.W.dataLt_cons (al_pr p p), if_pos (eqv_pr_self p), PySem.W.dataLt_cons (al_pr q q')]
    have hne : ¬ PyData.eqv (dPr q) (dPr q') = true := by
      simp only [dPr, PyData.eqv, PyData.eqvAll, Bool.and_true, Bool.and_eq_true, beq_iff_eq]
      omega
    rw [if_neg hne]
    unfold dPr
    rw [PySem.W.dataLt_ii]
    exact decide_eq_false (by omega)
  rw [hr]
  split <;> rfl
theorem dp_prs {K : PySem.W.Frag} {H : Hp} : ∀ {us : List V} {rs : List (Nat × Nat)}, us.length = rs.length → (∀ (i : Nat) r, rs[i]? = some r → ∃ x, us[i]? = some x ∧ FgV H x r) → DpAll K H us (rs.map dPr)
  | [], [], _, _ => .nil
  | [], _ :: _, h, _ => by cases h
  | _ :: _, [], h, _ => by cases h
  | u :: us, r :: rs, h, k => by
    obtain ⟨x, e, b, hx, eb⟩ := k 0 r rfl
    have e : u = x := Option.some.inj e
    subst e
    subst hx
    exact .cons (.tup (SqT.of eb) (.cons (.int _) (.cons (.int _) .nil))) (dp_prs (Nat.succ.inj h) fun i r e => k (i + 1) r e)
theorem dp_wy {K : PySem.W.Frag} {H : Hp} {p q : Addr} {y : Nat} {ws : List V} {rs : List (Nat × Nat)} (e1 : H p = some (.tup [nV y, .ref q])) (e2 : H q = some (.tup ws)) (lv : LV (FgV H) ws rs) : Dp K H (.ref p) (dWy y rs) :=
  .tup (SqT.of e1) (.cons (.int _) (.cons (.tup (SqT.of e2) (dp_prs lv.1 lv.2)) .nil))
theorem LV.rev {α : Type} {R : V → α → Prop} {us : List V} {rs : List α} (h : LV R us rs) : LV R us.reverse rs.reverse := by
  have l := h.1
  refine ⟨by rw [List.length_reverse, List.length_reverse, l], fun i r e => ?_⟩
  have hi : i < rs.length := by
    have := (List.getElem?_eq_some_iff.mp e).1
    rwa [List.length_reverse] at this
  rw [List.getElem?_reverse hi] at e
  obtain ⟨x, ex, hx⟩ := h.2 _ r e
  exact ⟨x, by rw [List.getElem?_reverse (by omega), l]; exact ex, hx⟩
variable {P : Program} {w : World} {K : PySem.W.Frag} {mg : Str → Option Value} {base : Heap}
theorem ixN_nat {n j : Nat} (h : j < n) : ixN n (j : Int) = some j := by
  unfold ixN
  rw [if_pos (by omega), if_pos (by omega)]; simp
theorem catA_any {K : PySem.W.Frag} {H : Hp} {a b : Addr} {xs ys : List V} {Q : VK} (ea : H a = some (.tup xs)) (eb : H b = some (.tup ys)) (hz : xs.length + ys.length ≤ sizeLine) (q : ∀ c H', Same H H' → H' c = some (.tup (xs ++ ys)) → Q (.ref c) H') : rCatA K (.ref a) (.ref b) H Q :=
  ⟨a, b, xs, ys, rfl, rfl, SqT.of ea, SqT.of eb, hz, fun z => q b H (Same.refl H) (by rw [z]; exact eb), fun _ z => q a H (Same.refl H) (by rw [z, List.append_nil]; exact ea), fun _ _ p np => q p _ (same_upd (Same.refl H) np) upd_same⟩
end Vf

set_option Elab.async false
set_option linter.all false
set_option maxRecDepth 100000
set_option maxHeartbeats 4000000
namespace Vf
open PySem PySem.Spec PyProof.Rows L2 TL
theorem rv_set {g : Nat → Option Nat} {b u : Nat} (hb : ∀ v t, g v = some t → t < b) : ∀ n j, j ≠ b → rv (fset g b u) n j = rv g n j
  | 0, _, _ => rfl
  | n + 1, j, hj => by
    unfold rv
    rw [fset_ne hj]
    cases e : g j with
    | none => rfl
    | some t =>
      have := hb j t e
      show j :: rv (fset g b u) n t = j :: rv g n t
      rw [rv_set hb n t (by omega)]
theorem Rw_set {g : Nat → Option Nat} {b u : Nat} (hb : ∀ v t, g v = some t → t < b) {j : Nat} (hj : j ≠ b) : Rw (fset g b u) j = Rw g j := rv_set hb j j hj
theorem Rw_new {g : Nat → Option Nat} {b u : Nat} (hb : ∀ v t, g v = some t → t < b) (dn : ∀ v t, g v = some t → t < v) (hu : u < b) : Rw (fset g b u) b = b :: Rw g u := by
  have dn' : ∀ v t, fset g b u v = some t → t < v := fun v t e => by
    by_cases c : v = b
    · subst c
      rw [fset_same] at e
      have := Option.some.inj e
      omega
    · rw [fset_ne c] at e; exact dn v t e
  rw [Rw_some dn' (v := b) (u := u) fset_same, Rw_set hb (by omega)]
/-- the best of a place: its total and its way back -/
def BeP (S : Sty) (Z : List (List Nat)) (H : Hp) (x : V) (o : Option Nat) (ns : List Nat) : Prop := match o with
  | none => x = .non
  | some y => ∃ p q ws, x = .ref p ∧ H p = some (.tup [nV y, .ref q]) ∧ H q = some (.tup ws) ∧ LV (FgV H) ws (ns.map (atQ S Z))
theorem BeP.tk {S : Sty} {Z : List (List Nat)} {H H' : Hp} {x : V} {o : Option Nat} {ns : List Nat} (h : BeP S Z H x o ns) (k : ∀ a xs, H a = some (.tup xs) → H' a = some (.tup xs)) : BeP S Z H' x o ns := by
  cases o with
  | none => exact h
  | some y =>
    obtain ⟨p, q, ws, e, h1, h2, h3⟩ := h
    exact ⟨p, q, ws, e, k _ _ h1, k _ _ h2, h3.mono fun _ _ z => z.kt k⟩
def BsP (S : Sty) (Z : List (List Nat)) (H : Hp) (L : Addr) (f g : Nat → Option Nat) : Prop := ∃ bs : List V, H L = some (.lst bs) ∧ bs.length = (posL S Z).length ∧ ∀ j, j < (posL S Z).length → ∃ x, bs[j]? = some x ∧ BeP S Z H x (f j) (Rw g j)
/-- what the law's own search leaves -/
def DueW (S : Sty) (Z : List (List Nat)) (H : Hp) (x : V) (f g : Nat → Option Nat) : Prop := match f ((posL S Z).length - 1) with
  | none => x = .non
  | some _ => ∃ p, x = .ref p ∧ WayV S Z H p (Rw g ((posL S Z).length - 1)).reverse
section
variable {M L : Nat} {S : Sty} {Z : List (List Nat)}
theorem net_row {a : Nat} (ha : a + 1 < (posL S Z).length) (r : Arc) : (r ∈ netQ M L S Z ∧ r.1 = a) ↔ ∃ s, s < (posL S Z).length - (a + 1) ∧ arcAt M L S Z a (a + 1 + s) = some r := by
  constructor
  · rintro ⟨h1, h2⟩
    have h3 : r.2 ∈ adjT (netQ M L S Z) a := adjT_mem.mpr (by rw [← h2]; exact h1)
    rw [netQ_adj ha] at h3
    obtain ⟨r', h4, h5⟩ := List.mem_map.mp h3
    have h6 := rowQ_fst a r' h4
    have e : r' = r := Prod.ext (by rw [h6, h2]) h5
    rw [e, rowQ_at ha] at h4
    obtain ⟨s, hs, es⟩ := List.mem_filterMap.mp h4
    exact ⟨s, List.mem_range.mp hs, es⟩
  · rintro ⟨s, hs, es⟩
    have h1 : r ∈ rowQ M L S Z a := by
      rw [rowQ_at ha]
      exact List.mem_filterMap.mpr ⟨s, List.mem_range.mpr hs, es⟩
    have h2 := rowQ_fst a r h1
    refine ⟨?_, h2⟩
    have h3 : r.2 ∈ adjT (netQ M L S Z) a := by
      rw [netQ_adj ha]
      exact List.mem_map.mpr ⟨r, h1, rfl⟩
    have := adjT_mem.mp h3
    rw [← h2] at this
    exact this
/-- where a whole word's end doesn't fit, nothing behind it does -/
theorem arc_far {a s s' : Nat} (hs' : s' < (posL S Z).length - (a + 1)) (h : s ≤ s') (e : arcAt M L S Z a (a + 1 + s) = none) (e0 : (atQ S Z (a + 1 + s)).2 = 0) : arcAt M L S Z a (a + 1 + s') = none := by
  have asc := List.pairwise_iff_getElem.mp (pos_asc S Z)
  have la : a < (posL S Z).length := by omega
  have lb : a + 1 + s < (posL S Z).length := by omega
  have lc : a + 1 + s' < (posL S Z).length := by omega
  have ga : atQ S Z a = (posL S Z)[a] := getD_of (List.getElem?_eq_getElem la)
  have gb : atQ S Z (a + 1 + s) = (posL S Z)[a + 1 + s] := getD_of (List.getElem?_eq_getElem lb)
  have gc : atQ S Z (a + 1 + s') = (posL S Z)[a + 1 + s'] := getD_of (List.getElem?_eq_getElem lc)
  have h1 : LtP (atQ S Z a) (atQ S Z (a + 1 + s)) := by rw [ga, gb]; exact asc a (a + 1 + s) la lb (by omega)
  have h2 : atQ S Z (a + 1 + s) = atQ S Z (a + 1 + s') ∨ LtP (atQ S Z (a + 1 + s)) (atQ S Z (a + 1 + s')) := by
    rcases Nat.lt_or_eq_of_le h with c | c
    · refine .inr ?_
      rw [gb, gc]; exact asc _ _ lb lc (by omega)
    · exact .inl (by rw [c])
  unfold arcAt arcD at e ⊢
  rw [show (posL S Z).getD a (0, 0) = atQ S Z a from rfl] at e ⊢
  rw [show (posL S Z).getD (a + 1 + s) (0, 0) = atQ S Z (a + 1 + s) from rfl] at e
  rw [show (posL S Z).getD (a + 1 + s') (0, 0) = atQ S Z (a + 1 + s') from rfl]
  generalize atQ S Z a = x at *
  generalize atQ S Z (a + 1 + s) = y at *
  generalize atQ S Z (a + 1 + s') = z at *
  have hn : M < natW S Z x.1 x.2 y := by
    by_cases c : natW S Z x.1 x.2 y ≤ M
    · rw [if_pos c] at e; cases e
    · omega
  have h1 : x.1 < y.1 := by
    rcases h1 with h | h
    · exact h
    · omega
  have hyz : y.1 ≤ z.1 := by
    rcases h2 with h | h | h
    · rw [h]; exact Nat.le_refl _
    · exact Nat.le_of_lt h
    · exact Nat.le_of_eq h.1
  have hn2 : M < ahW S Z x.1 x.2 (y.1 - x.1) - 1 := by
    unfold natW at hn
    rwa [if_pos e0] at hn
  have := fit_far (M := M) (S := S) (Z := Z) (i := x.1) (k := x.2) (t := y.1 - x.1) hn2 (y := z) (by omega)
  unfold fitO at this
  by_cases c : natW S Z x.1 x.2 z ≤ M
  · rw [if_pos c] at this; cases this
  · rw [if_neg c]
end
end Vf

set_option Elab.async false
set_option linter.all false
set_option maxRecDepth 100000
set_option maxHeartbeats 4000000
namespace Vf
open PySem PySem.Spec PyProof.Rows L2 TL
theorem arcAt_eq2 {M L : Nat} {S : Sty} {Z : List (List Nat)} {a b : Nat} {x y : Nat × Nat} (hx : (posL S Z)[a]? = some x) (hy : (posL S Z)[b]? = some y) : arcAt M L S Z a b = if natW S Z x.1 x.2 y ≤ M then some (a, b, costQ M L S Z x.2 y (natW S Z x.1 x.2 y)) else none := by
  unfold arcAt arcD
  rw [getD_of hx, getD_of hy]
/-- a list of pairs -/
def AdjV (H : Hp) (x : V) (l : List (Nat × Nat)) : Prop := ∃ b vs, x = .ref b ∧ H b = some (.lst vs) ∧ LV (FgV H) vs l
theorem AdjV.same {H H' : Hp} {x : V} {l : List (Nat × Nat)} (h : AdjV H x l) (k : Same H H') : AdjV H' x l := by
  obtain ⟨b, vs, e, h1, h2⟩ := h
  exact ⟨b, vs, e, k _ _ h1, h2.mono fun _ _ z => z.same k⟩
/-- the first s arcs from a -/
def rowI (M L : Nat) (S : Sty) (Z : List (List Nat)) (a s : Nat) : List (Nat × Nat) := ((List.range s).filterMap fun s => arcAt M L S Z a (a + 1 + s)).map (·.2)
theorem rowI_succ {M L : Nat} {S : Sty} {Z : List (List Nat)} {a s : Nat} : rowI M L S Z a (s + 1) = rowI M L S Z a s ++ ((arcAt M L S Z a (a + 1 + s)).map (·.2)).toList := by
  unfold rowI
  rw [List.range_succ, fm_append, fm_one, List.map_append]
  cases arcAt M L S Z a (a + 1 + s) <;> rfl
theorem rowI_end {M L : Nat} {S : Sty} {Z : List (List Nat)} {a : Nat} (ha : a < (posL S Z).length) : rowI M L S Z a ((posL S Z).length - (a + 1)) = adjT (netQ M L S Z) a := by
  by_cases c : a + 1 < (posL S Z).length
  · rw [netQ_adj c, rowQ_at c]; rfl
  · rw [netQ_adj0 (by omega), show (posL S Z).length - (a + 1) = 0 by omega]; rfl
theorem rowI_len {M L : Nat} {S : Sty} {Z : List (List Nat)} {a s : Nat} : (rowI M L S Z a s).length ≤ s := by
  unfold rowI
  rw [List.length_map]
  have := List.length_filterMap_le (fun s => arcAt M L S Z a (a + 1 + s)) (List.range s)
  rwa [List.length_range] at this
theorem pair_app {H H6 : Hp} {W p : Addr} {ws : List V} {rs : List (Nat × Nat)} {va vb : V} {a b : Nat} (ha : va = nV a) (hb : vb = nV b) (k : Same H H6) (nW : H W = none) (e : H6 W = some (.lst ws)) (lw : LV (FgV H6) ws rs) (np : H6 p = none) :
    upd H6 p (.tup [va, vb]) W = some (.lst ws) ∧ Same H (upd (upd H6 p (.tup [va, vb])) W (.lst (ws ++ [.ref p]))) ∧ LV (FgV (upd (upd H6 p (.tup [va, vb])) W (.lst (ws ++ [.ref p])))) (ws ++ [.ref p]) (rs ++ [(a, b)]) := by
  subst ha hb
  have k4 := same_upd (o := .tup [nV a, nV b]) (Same.refl H6) np
  have e4 : upd H6 p (.tup [nV a, nV b]) p = some (.tup [nV a, nV b]) := upd_same
  generalize upd H6 p (.tup [nV a, nV b]) = H4 at k4 e4
  have el4 := k4 _ _ e
  exact ⟨el4, same_mut (k.trans k4) nW, LV.snoc (lw.mono fun _ _ z => (z.same k4).kt (kt_mut el4)) ⟨p, rfl, kt_mut el4 _ _ e4⟩⟩
section
variable {P : Program} {w : World} {K : PySem.W.Frag} {mg : Str → Option Value} {base : Heap}
def spLArcs : Sp := fun vs H Q _ => ∃ (sa : Addr) (us : List V) (S : Sty) (Z : List (List Nat)) (M L : Nat), vs = [nV M, nV L, .ref sa] ∧ SeqH H sa us ∧ LV (ShV S H) us Z ∧ WdsOk S Z ∧ (∀ z ∈ Z, WdOk z) ∧ (posL S Z).length ≤ 91 ∧ M ≤ 1000000 ∧
  ∀ H' R rs, Same H H' → H' R = some (.lst rs) → LV (AdjV H') rs ((List.range (posL S Z).length).map (adjT (netQ M L S Z))) → Q (.ref R) H'
theorem ok_larcs (T : Txt K mg) : FnOk P w K mg base CX0 4 T.a_law_arcs T.d_law_arcs ["_law_measure_here", "_law_ladder", "_law_shapes"] spLArcs := by
  have G_law_positions : FnOk P w K mg base CX0 1 T.a_law_positions T.d_law_positions ["_law_shapes"] spLPos := ok_lpos T
  have G_law_line_cost : FnOk P w K mg base CX0 3 T.a_law_line_cost T.d_law_line_cost ["_law_measure_here", "_law_ladder", "_law_shapes", "_law_start", "_law_end"] spLC := ok_lc T
  refine T.D_law_arcs.F.ok sc_law_arcs (fun vs H Q E h => ?_) (fun cdv A outer s H vs Q E hr h => ?_)
  · obtain ⟨_, _, _, _, _, _, rfl, _⟩ := h
    rfl
  · obtain ⟨sa, us, S, Z, M, L, rfl, es, lv, ok, h16, l91, hM, q⟩ := h
    refine ⟨_, (pss_cons (ps_set (i := 3) sc_law_arcs.nd rfl (.inl rfl) (pe_call G_law_positions (hr.mono (by decide)) (by rfl) T.D_law_positions.G T.D_law_positions.F.kp T.D_law_positions.B .nil pass0 (pa_cons (pv 2) pa_nil)))
      (pss_cons (ps_set (i := 4) sc_law_arcs.nd rfl (.inl rfl) (pe_lst pa_nil))
      (pss_cons (ps_for PassesOwn.never rfl (pi_range1 (by rfl) T.n_range (pa_cons (pe_callB call_len_seq (by rfl) T.n_len PySem.boot_len (pa_cons (pv 3) pa_nil)) pa_nil)) (pg_name (i := 5) sc_law_arcs.nd rfl (.inl rfl)) (pss_cons (ps_set (i := 6) sc_law_arcs.nd rfl (.inl rfl) (pe_lst pa_nil))
      (pss_cons (ps_for PassesOwn.never rfl (pi_range2 (by rfl) T.n_range (pa_cons (pe_op op_add (pv 5) pe_int) (pa_cons (pe_callB call_len_seq (by rfl) T.n_len PySem.boot_len (pa_cons (pv 3) pa_nil)) pa_nil))) (pg_name (i := 7) sc_law_arcs.nd rfl (.inl rfl)) (pss_cons (ps_set (i := 8) sc_law_arcs.nd rfl (.inl rfl) (pe_call G_law_line_cost (hr.mono (by decide)) (by rfl) T.D_law_line_cost.G T.D_law_line_cost.F.kp T.D_law_line_cost.B .nil pass0 (pa_cons (pv 0) (pa_cons (pv 1) (pa_cons (pv 2) (pa_cons (pe_ix ix_list (pv 3) (pv 5) (fun _ _ => rfl)) (pa_cons (pe_ix ix_list (pv 3) (pv 7) (fun _ _ => rfl)) pa_nil)))))))
      (pss_one (ps_if (pt_cmpR op_notN (pv 8) pe_non (nomark _)) (pss_one (ps_expr (pe_bm PySem.F.plainAttrs_list PySem.F.slot_list_append PySem.F.type_list_append mt_append (pv 6) (pa_cons (pe_tup (pa_cons (pv 7) (pa_cons (pv 8) pa_nil))) pa_nil)))) pss_nil))))
      (pss_one (ps_expr (pe_bm PySem.F.plainAttrs_list PySem.F.slot_list_append PySem.F.type_list_append mt_append (pv 4) (pa_cons (pv 6) pa_nil)))))))
      (pss_one (ps_ret (pv 4)))))), ?_⟩
    refine ⟨_, rfl, sa, us, S, Z, rfl, es, lv, ok, fun H1 pl ps k1 n1 e1 lp => ?_⟩
    have lpn := lp.1
    refine ⟨by show 0 ≤ sizeLine; decide, fun R nR => ?_⟩
    have k2 := same_upd (o := .lst []) (Same.refl H1) nR
    have eR : upd H1 R (.lst []) R = some (.lst []) := upd_same
    generalize upd H1 R (.lst []) = H2 at k2 eR
    refine ⟨_, rfl, pl, ps, rfl, .inl (SqL.of (k2 _ _ e1)), ((posL S Z).length : Int), by rw [lpn], by omega, by omega, ?_⟩
    rw [Int.toNat_natCast]
    refine for_it walk_range (fun a σ' H' => ∃ (x5 x6 x7 x8 : Option V) (rs : List V), σ' = [some (nV M), some (nV L), some (.ref sa), some (.ref pl), some (.ref R), x5, x6, x7, x8] ∧ Same H1 H' ∧ H' R = some (.lst rs) ∧ (∀ x ∈ rs, x ≠ .ref R) ∧ LV (AdjV H') rs ((List.range a).map (adjT (netQ M L S Z)))) ⟨none, none, none, none, [], rfl, k2, eR, (fun _ h => nomatch h), LV.nil⟩ (fun _ _ _ _ _ => trivial) ?_ ?_
    · rintro a x σ' H0 H3 ha ⟨x5, x6, x7, x8, rs, rfl, k3, eR3, nr, lr⟩ ⟨rfl, hx⟩
      have hx : x = nV a := by rw [hx]; exact int0 a
      subst hx
      have lrl := lr.1
      rw [List.length_map, List.length_range] at lrl
      refine ⟨by show 0 ≤ sizeLine; decide, fun W nW => ?_⟩
      have k4 := same_upd (o := .lst []) (Same.refl H3) nW
      have eW : upd H3 W (.lst []) W = some (.lst []) := upd_same
      have nWR : R ≠ W := ne_of_none eR3 nW
      generalize upd H3 W (.lst []) = H4 at k4 eW
      have en : (((posL S Z).length : Int) - ((a + 1 : Nat) : Int)).toNat = (posL S Z).length - (a + 1) := by omega
      have k34 := k3.trans k4
      refine ⟨_, rfl, _, _, rfl, rfl, _, rfl, pl, ps, rfl, .inl (SqL.of (k34 _ _ e1)), ((a + 1 : Nat) : Int), ((posL S Z).length : Int), by rw [lpn]; rfl, by omega, ?_⟩
      rw [en]
      refine for_it walk_range (fun s σ' H' => ∃ (x7 x8 : Option V) (ws : List V), σ' = [some (nV M), some (nV L), some (.ref sa), some (.ref pl), some (.ref R), some (nV a), some (.ref W), x7, x8] ∧ Same H3 H' ∧ H' W = some (.lst ws) ∧ LV (FgV H') ws (rowI M L S Z a s)) ⟨x7, x8, [], rfl, k4, eW, LV.nil⟩ (fun _ _ _ _ _ => trivial) ?_ ?_
      · rintro s x σ' H0 H5 hs ⟨x7, x8, ws, rfl, k5, eW5, lw⟩ ⟨rfl, hx⟩
        have hx : x = nV (a + 1 + s) := by rw [hx]; exact congrArg V.int (by omega)
        subst hx
        have hbl : a + 1 + s < (posL S Z).length := by omega
        have k15 := k3.trans k5
        obtain ⟨px, gx⟩ : ∃ px, (posL S Z)[a]? = some px := ⟨_, List.getElem?_eq_getElem (by omega)⟩
        obtain ⟨py, gy⟩ : ∃ py, (posL S Z)[a + 1 + s]? = some py := ⟨_, List.getElem?_eq_getElem hbl⟩
        obtain ⟨xa, exa, ba, rfl, eba⟩ := lp.2 _ _ gx
        obtain ⟨xb, exb, bb, rfl, ebb⟩ := lp.2 _ _ gy
        have two := pos_two (show a < a + 1 + s by omega) gx gy
        refine ⟨_, rfl, _, rfl, _, rfl, _, rfl, _, rfl, pl, ps, _, _, rfl, rfl, SqL.of (k15 _ _ e1), atI_nat exa, _, rfl, _, rfl, pl, ps, _, _, rfl, rfl, SqL.of (k15 _ _ e1), atI_nat exb, sa, ba, bb, us, S, Z, M, L, px.1, px.2, py.1, py.2, rfl, (es.same k1).same k15, lv.mono fun _ _ z => ShV.kt z fun _ _ e => k15 _ _ (k1 _ _ e), ok, h16, k15 _ _ eba, k15 _ _ ebb, two.1, two.2.1, two.2.2, hM, fun H6 k6 => ?_⟩
        have ea := arcAt_eq2 (M := M) (L := L) gx gy
        have eW6 := k6 _ _ eW5
        have lw6 : LV (FgV H6) ws (rowI M L S Z a s) := lw.mono fun _ _ z => z.same k6
        have lwl := lw.1
        have rl := rowI_len (M := M) (L := L) (S := S) (Z := Z) (a := a) (s := s)
        by_cases cM : natW S Z px.1 px.2 (py.1, py.2) ≤ M
        · rw [if_pos cM]
          rw [if_pos cM] at ea
          generalize costQ M L S Z px.2 (py.1, py.2) (natW S Z px.1 px.2 (py.1, py.2)) = c at ea ⊢
          have ea : arcAt M L S Z a (a + 1 + s) = some (a, a + 1 + s, c) := ea
          refine ⟨_, rfl, rfl, _, rfl, ?_⟩
          refine iteT ?_
          refine ⟨.ref W, rfl, .inl ⟨rfl, _, .inl (.inl eW6)⟩, _, rfl, _, rfl, by show 2 ≤ sizeLine; decide, fun p np => ?_⟩
          have E := pair_app (a := a + 1 + s) (b := c) (va := nV (a + 1 + s)) (vb := nV c) rfl rfl (k5.trans k6) nW eW6 lw6 np
          refine ⟨W, ws, _, rfl, rfl, E.1, szN (by omega), _, _, ws ++ [.ref p], rfl, E.2.1, upd_same, ?_⟩
          rw [rowI_succ, ea]
          exact E.2.2
        · rw [if_neg cM]
          rw [if_neg cM] at ea
          refine ⟨_, rfl, rfl, _, rfl, ?_⟩
          refine iteF ?_
          refine ⟨_, _, ws, rfl, k5.trans k6, eW6, ?_⟩
          rw [rowI_succ, ea]
          show LV _ _ (_ ++ [])
          rw [List.append_nil]; exact lw6
      · rintro σ' H5 ⟨x7, x8, ws, rfl, k5, eW5, lw⟩
        rw [rowI_end ha] at lw
        have eR5 := k5 _ _ eR3
        refine ⟨.ref R, rfl, .inl ⟨rfl, _, .inl (.inl eR5)⟩, _, rfl, R, rs, _, rfl, rfl, eR5, szN (by omega), ?_⟩
        have kt := kt_mut (zs := rs ++ [V.ref W]) eR5
        have nWR' : V.ref W ≠ V.ref R := fun z => nWR (by injection z with z; exact z.symm)
        refine ⟨_, _, _, _, rs ++ [.ref W], rfl, same_mut (k3.trans k5) nR, upd_same, fun x hx => ?_, ?_⟩
        · rcases List.mem_append.mp hx with h | h
          · exact nr x h
          · rw [List.mem_singleton.mp h]; exact nWR'
        · rw [List.range_succ, List.map_append]
          have mv : ∀ {y : V} {l : List (Nat × Nat)}, AdjV H5 y l → y ≠ .ref R → AdjV (upd H5 R (.lst (rs ++ [V.ref W]))) y l := fun {y l} h hn => by
            obtain ⟨b, vs, rfl, h1, h2⟩ := h
            exact ⟨b, vs, rfl, by rw [upd_ne (fun z => hn (by rw [z]))]; exact h1, h2.mono fun _ _ z => z.kt kt⟩
          have lr2 : LV (fun y l => AdjV H5 y l ∧ y ≠ .ref R) rs ((List.range a).map (adjT (netQ M L S Z))) := ⟨lr.1, fun i r e => by
            obtain ⟨x, h1, h2⟩ := lr.2 i r e
            exact ⟨x, h1, h2.same k5, nr x (List.mem_of_getElem? h1)⟩⟩
          exact LV.snoc (lr2.mono fun _ _ z => mv z.1 z.2) (mv ⟨W, ws, rfl, eW5, lw⟩ nWR')
    · rintro σ' H3 ⟨x5, x6, x7, x8, rs, rfl, k3, eR3, nr, lr⟩
      exact ⟨_, rfl, q H3 R rs (k1.trans k3) eR3 lr⟩
end
end Vf

set_option Elab.async false
set_option linter.all false
set_option maxRecDepth 100000
set_option maxHeartbeats 4000000
namespace Vf
open PySem PySem.Spec PyProof.Rows L2 TL
/-- the net: a bound for its size, and for the arcs from a node -/
def NetOk (n : Nat) (as : List Arc) : Prop := 1 ≤ n ∧ n ≤ 91 ∧ as.length ≤ 8300 ∧ (∀ a ∈ as, a.1 < a.2.1 ∧ a.2.1 < n) ∧ ∀ i, (as.filterMap fun a => if a.1 = i then some a.2 else none).length ≤ 91
def NetV (H : Hp) (v : V) (n : Nat) (as : List Arc) : Prop := ∃ a pa vs, v = .ref a ∧ H a = some (.tup [nV n, .ref pa]) ∧ H pa = some (.tup vs) ∧ LV (ArcV H) vs as
theorem NetV.mono {H H' : Hp} {v : V} {n : Nat} {as : List Arc} (h : NetV H v n as) (k : ∀ a xs, H a = some (.tup xs) → H' a = some (.tup xs)) : NetV H' v n as := by
  obtain ⟨a, pa, vs, e, h1, h2, h3⟩ := h
  exact ⟨a, pa, vs, e, k _ _ h1, k _ _ h2, h3.mono fun _ _ z => z.mono k⟩
end Vf

set_option Elab.async false
set_option linter.all false
set_option maxRecDepth 100000
set_option maxHeartbeats 4000000
namespace Vf
open PySem PySem.Spec PyProof.Rows L2 TL LamX
def PairV (H : Hp) (x : V) (r : Nat × Nat) : Prop := ∃ b, x = .ref b ∧ H b = some (.tup [nV r.1, nV r.2])
theorem PairV.mono {H H' : Hp} {x : V} {r : Nat × Nat} (h : PairV H x r) (k : ∀ a xs, H a = some (.tup xs) → H' a = some (.tup xs)) : PairV H' x r := by
  obtain ⟨b, e, f⟩ := h
  exact ⟨b, e, k _ _ f⟩
def adj (as : List Arc) (i : Nat) : List (Nat × Nat) := as.filterMap fun a => if a.1 = i then some a.2 else none
theorem adj_take {as : List Arc} {i : Nat} {a : Arc} (e : as[i]? = some a) (k : Nat) : adj (as.take (i + 1)) k = adj (as.take i) k ++ if a.1 = k then [a.2] else [] := by
  unfold adj
  rw [show as.take (i + 1) = as.take i ++ [a] by rw [List.take_succ, e]; rfl, List.filterMap_append]
  congr 1
  by_cases h : a.1 = k
  · rw [if_pos h, List.filterMap_cons_some (b := a.2) (by rw [if_pos h])]; rfl
  · rw [if_neg h, List.filterMap_cons_none (by rw [if_neg h])]; rfl
theorem adj_mem {as : List Arc} {k : Nat} {p : Nat × Nat} : p ∈ adj as k ↔ (k, p) ∈ as := by
  unfold adj
  rw [List.mem_filterMap]
  constructor
  · rintro ⟨a, ha, e⟩
    by_cases h : a.1 = k
    · rw [if_pos h] at e
      have e := Option.some.inj e
      rw [← h, ← e]; exact ha
    · rw [if_neg h] at e; cases e
  · intro h
    exact ⟨(k, p), h, if_pos rfl⟩
theorem adj_len (as : List Arc) (k : Nat) : (adj as k).length ≤ as.length := List.length_filterMap_le _ _
def LeadV (H : Hp) (L : Addr) (n : Nat) (as : List Arc) : Prop := ∃ ls, H L = some (.lst ls) ∧ ls.length = n ∧ ∀ i, i < n → ∃ b vs, ls[i]? = some (.ref b) ∧ H b = some (.lst vs) ∧ LV (PairV H) vs (adj as i)
def LdI (H : Hp) (L : Addr) (n : Nat) (as : List Arc) (H' : Hp) : Prop := Same H H' ∧ ∃ ls : List Addr, H' L = some (.lst (ls.map V.ref)) ∧ ls.length = n ∧ ls.Nodup ∧ L ∉ ls ∧ H L = none ∧ ∀ i b, ls[i]? = some b → H b = none ∧ ∃ vs, H' b = some (.lst vs) ∧ LV (PairV H') vs (adj as i)
theorem LdI.lead {H H' : Hp} {L : Addr} {n : Nat} {as : List Arc} (h : LdI H L n as H') : LeadV H' L n as := by
  obtain ⟨_, ls, e1, e2, _, _, _, e3⟩ := h
  refine ⟨_, e1, by rw [List.length_map]; exact e2, fun i hi => ?_⟩
  have g : ls[i]? = some ls[i] := List.getElem?_eq_getElem (by omega)
  obtain ⟨_, vs, h1, h2⟩ := e3 i _ g
  exact ⟨ls[i], vs, by rw [List.getElem?_map, g]; rfl, h1, h2⟩
theorem nd_inj {α : Type} {ls : List α} (h : ls.Nodup) {i j : Nat} {b : α} (hi : ls[i]? = some b) (hj : ls[j]? = some b) : i = j := by
  obtain ⟨i1, i2⟩ := List.getElem?_eq_some_iff.mp hi
  obtain ⟨j1, j2⟩ := List.getElem?_eq_some_iff.mp hj
  rcases Nat.lt_trichotomy i j with l | l | l
  · exact absurd (i2.trans j2.symm) (List.pairwise_iff_getElem.mp h i j i1 j1 l)
  · exact l
  · exact absurd (j2.trans i2.symm) (List.pairwise_iff_getElem.mp h j i j1 i1 l)
def BdV (H : Hp) (D : Addr) (N : Nat) (f : Nat → Option Nat) : Prop := ∃ kvs : List (Key × V), H D = some (.dK kvs) ∧ kvs.length ≤ N ∧ ∀ j : Nat, valV kvs (Sum.inl (j : Int)) = (f j).map nV
theorem BdV.keep {H H' : Hp} {D : Addr} {N : Nat} {f : Nat → Option Nat} (h : BdV H D N f) (k : ∀ o, H D = some o → H' D = some o) : BdV H' D N f := by
  obtain ⟨kvs, e, r⟩ := h
  exact ⟨kvs, k _ e, r⟩
theorem BdV.keep' {H : Hp} {D : Addr} {N M : Nat} {f : Nat → Option Nat} (h : BdV H D N f) (l : N ≤ M) : BdV H D M f := by
  obtain ⟨kvs, e, r, v⟩ := h
  exact ⟨kvs, e, Nat.le_trans r l, v⟩
theorem BdV.get {H : Hp} {D : Addr} {N : Nat} {f : Nat → Option Nat} (h : BdV H D N f) (j : Nat) : DGet H D (nV j) ((f j).map nV) := by
  obtain ⟨kvs, e, _, v⟩ := h
  rw [← v j]
  exact DGet.k (k := Sum.inl (j : Int)) e
theorem BdV.put {H : Hp} {D : Addr} {N : Nat} {f : Nat → Option Nat} (h : BdV H D N f) (hN : N < 100000) (j x : Nat) : ∃ H', DPut H D (nV j) (nV x) H' ∧ BdV H' D (N + 1) (fset f j x) ∧ ∃ o, H' = upd H D o := by
  obtain ⟨kvs, e, l, v⟩ := h
  refine ⟨_, DPut.k (k := Sum.inl (j : Int)) e (szN (by omega)), ⟨_, upd_same, Nat.le_trans (length_putK _ _ _) (by omega), fun i => ?_⟩, _, rfl⟩
  rw [valV_put]
  by_cases c : i = j
  · subst c
    rw [if_pos rfl, fset_same]; rfl
  · rw [if_neg (fun (z : (Sum.inl ((i : Nat) : Int) : Key) = Sum.inl ((j : Nat) : Int)) => c (Int.ofNat.inj (Sum.inl.inj z))), fset_ne c]
    exact v i
/-- what _bounds_and_tails asks of the leads, and what it tells -/
def ttBt (tl : V → Hp → VK → Prop) (v0 : V) (H : Hp) (Q : VK) : Prop := ∃ (a : Addr) (n : Nat) (as : List Arc), v0 = .ref a ∧ H a = some (.lst ((List.range n).map nV)) ∧ NetOk n as ∧
  (∀ (i : Nat) (H' : Hp) (Q' : VK), i < n → Same H H' → (∀ b vs, H' b = some (.lst vs) → H b ≠ none → LV (PairV H') vs (adj as i) → Q' (.ref b) H') → tl (nV i) H' Q') ∧
  ∀ (H' : Hp) (B D1 D2 : Addr) (f g : Nat → Option Nat) (N : Nat), Same H H' → H' B = some (.tup [.ref D1, .ref D2]) → BdV H' D1 N f → BdV H' D2 N g → Bd (· ∈ as) f g → Q (.ref B) H'
section
variable {P : Program} {w : World} {K : PySem.W.Frag} {mg : Str → Option Value} {base : Heap}
def spLeading : Sp := fun vs H Q _ => ∃ (v : V) (n : Nat) (as : List Arc), vs = [v] ∧ NetV H v n as ∧ NetOk n as ∧ ∀ H' L, Same H H' → LeadV H' L n as → Q (.ref L) H'
theorem ok_leading (T : Txt K mg) : FnOk P w K mg base CX0 1 T.a_leading T.d_leading ["net"] spLeading := by
  refine T.D_leading.F.ok sc_leading (fun vs H Q E h => ?_) (fun cdv A outer s H vs Q E hr h => ?_)
  · obtain ⟨v, n, as, rfl, _⟩ := h
    rfl
  · obtain ⟨v, n, as, rfl, ⟨na, pa, us, rfl, e1, e2, lv⟩, ok, q⟩ := h
    have hn := ok.1
    have n7 := ok.2.1
    have lA := ok.2.2.1
    refine ⟨_, (pss_cons (ps_asg (pv 0) (pg_tup (by rfl) (pgs_cons (pg_name (i := 1) sc_leading.nd rfl (.inl rfl)) (pgs_cons (pg_name (i := 2) sc_leading.nd rfl (.inl rfl)) pgs_nil))))
      (pss_cons (ps_setLc (i := 3) (own := [("_", 7)]) (g := gName 7) (tt := tYes) rfl sc_leading.nd rfl rfl (sw_true rfl rfl rfl (by decide +kernel)) (pi_range1 (by rfl) T.n_range (pa_cons (pv 1) pa_nil)) (blkOk_by (own := [("_", 7)]) (N := ["net", "many", "arcs", "leading", "tail", "head", "cost", "_"]) (sc := (defScope s_leading)) (by decide +kernel)) (fun _ _ _ _ _ => (pg_name (i := 7) sc_leading.nd rfl (.inl rfl))) (fun _ _ _ _ _ => pts_nil) (fun _ _ _ _ _ => (pe_lst pa_nil)))
      (pss_cons (ps_for PassesOwn.never rfl (pi_tup (pv 2)) (pg_tup (by rfl) (pgs_cons (pg_name (i := 4) sc_leading.nd rfl (.inl rfl)) (pgs_cons (pg_name (i := 5) sc_leading.nd rfl (.inl rfl)) (pgs_cons (pg_name (i := 6) sc_leading.nd rfl (.inl rfl)) pgs_nil)))) (pss_one (ps_expr (pe_bm PySem.F.plainAttrs_list PySem.F.slot_list_append PySem.F.type_list_append mt_append (pe_ix ix_list (pv 3) (pv 4) (fun _ _ => rfl)) (pa_cons (pe_tup (pa_cons (pv 5) (pa_cons (pv 6) pa_nil))) pa_nil)))))
      (pss_one (ps_ret (pv 3)))))), ?_⟩
    refine ⟨_, rfl, na, _, rfl, SqT.of e1, rfl, _, _, rfl, _, _, rfl, rfl, ?_⟩
    refine ⟨_, rfl, (n : Int), rfl, by omega, by omega, fun D nD => ?_⟩
    rw [Int.toNat_natCast]
    refine lc_range (lo := 0) (n := n) (fun i H' => LdI H D i [] H') ⟨same_upd (Same.refl H) nD, [], upd_same, rfl, List.nodup_nil, by simp, nD, fun i b h => by simp at h⟩ (fun i H1 hi p => ⟨rfl, ?_⟩) (fun H1 p => ?_)
    · obtain ⟨k, ls, eD, ll, nd, nL, _, hb⟩ := p
      refine ⟨by show 0 ≤ sizeLine; decide, fun b nb => ?_⟩
      have nbH : H b = none := by
        cases e : H b with
        | none => rfl
        | some o => rw [k _ _ e] at nb; cases nb
      have nDb : D ≠ b := ne_of_none eD nb
      have eD2 : upd H1 b (.lst []) D = some (.lst (ls.map V.ref)) := by rw [upd_ne nDb]; exact eD
      have nbl : b ∉ ls := fun z => by
        obtain ⟨j, hj, e⟩ := List.mem_iff_getElem.mp z
        obtain ⟨_, vs, h1, _⟩ := hb j b (by rw [List.getElem?_eq_getElem hj, e])
        rw [nb] at h1; cases h1
      refine ⟨_, eD2, by rw [List.length_map]; exact szN (by omega), same_mut (same_upd k nb) nD, ls ++ [b], ?_, by rw [List.length_append, ll]; rfl, ?_, ?_, nD, ?_⟩
      · rw [upd_same, List.map_append]; rfl
      · exact List.nodup_append.mpr ⟨nd, by simp, fun x hx y hy => by rw [List.mem_singleton.mp hy]; exact fun z => nbl (z ▸ hx)⟩
      · intro z
        rcases List.mem_append.mp z with z | z
        · exact nL z
        · exact nDb (List.mem_singleton.mp z)
      · intro i2 b2 h2
        by_cases c : i2 < ls.length
        · rw [List.getElem?_append_left c] at h2
          obtain ⟨g1, vs, g2, g3⟩ := hb i2 b2 h2
          have n1 : b2 ≠ D := fun z => nL (z ▸ List.mem_of_getElem? h2)
          have n2 : b2 ≠ b := fun z => nbl (z ▸ List.mem_of_getElem? h2)
          refine ⟨g1, vs, by rw [upd_ne n1, upd_ne n2]; exact g2, ?_⟩
          have : vs = [] := List.eq_nil_of_length_eq_zero (by rw [g3.1]; rfl)
          rw [this]; exact LV.nil
        · rw [List.getElem?_append_right (by omega)] at h2
          have e0 : i2 - ls.length = 0 := by
            have := (List.getElem?_eq_some_iff.mp h2).1
            simp at this
            exact this
          rw [e0] at h2
          have h2 : b = b2 := Option.some.inj h2
          subst h2
          exact ⟨nbH, [], by rw [upd_ne nDb.symm, upd_same], LV.nil⟩
    · refine ⟨_, rfl, pa, rfl, ⟨us, SqT.of (p.1 _ _ e2)⟩, ?_⟩
      refine for_it (walk_tup (K := K) (a := pa) (xs := us)) (fun i σ' H' => LdI H D n (as.take i) H' ∧ ∃ (x4 x5 x6 : Option V), σ' = [some (.ref na), some (nV n), some (.ref pa), some (.ref D), x4, x5, x6, none]) ⟨p, none, none, none, rfl⟩ ?_ ?_ ?_
      · rintro i σ' H' _ ⟨pI, _⟩
        exact SqT.of (pI.1 _ _ e2)
      · rintro i x σ' H2 H3 hi ⟨⟨k, ls, eD, ll, nd, nL, nDH, hb⟩, x4, x5, x6, rfl⟩ ⟨rfl, hx⟩
        obtain ⟨r, hr2, c, rfl, ec⟩ := lv.at hx
        have hm := ok.2.2.2.1 r (List.mem_of_getElem? hr2)
        refine ⟨c, _, rfl, SqT.of (k _ _ ec), rfl, _, _, rfl, _, _, rfl, _, _, rfl, rfl, ?_⟩
        have ht : r.1 < ls.length := by omega
        have gt : ls[r.1]? = some ls[r.1] := List.getElem?_eq_getElem ht
        obtain ⟨bt, ebt⟩ : ∃ b, b = ls[r.1] := ⟨_, rfl⟩
        rw [← ebt] at gt
        obtain ⟨nbt, vs, g2, g3⟩ := hb _ _ gt
        refine ⟨_, rfl, _, rfl, D, _, _, _, rfl, rfl, SqL.of eD, atI_nat (v := V.ref bt) (by rw [List.getElem?_map, gt]; rfl), .inl ⟨rfl, _, .inl (.inl g2)⟩, ?_⟩
        refine ⟨_, rfl, _, rfl, by show 2 ≤ sizeLine; decide, fun p np => ?_⟩
        have k5 := same_upd (o := .tup [nV r.2.1, nV r.2.2]) (Same.refl H3) np
        have ep : upd H3 p (.tup [nV r.2.1, nV r.2.2]) p = some (.tup [nV r.2.1, nV r.2.2]) := upd_same
        generalize upd H3 p (.tup [nV r.2.1, nV r.2.2]) = H5 at k5 ep
        have le1 : vs.length ≤ as.length := by rw [g3.1]; exact Nat.le_trans (adj_len _ _) (by rw [List.length_take]; omega)
        refine ⟨bt, _, _, rfl, rfl, k5 _ _ g2, szN (by omega), ?_⟩
        have tupk : ∀ a xs, H5 a = some (.tup xs) → upd H5 bt (.lst (vs ++ [V.ref p])) a = some (.tup xs) := fun a xs e => by
          rw [upd_ne (fun z => by rw [z, k5 _ _ g2] at e; cases e)]; exact e
        refine ⟨⟨same_mut (k.trans k5) nbt, ls, by rw [upd_ne (fun (z : D = bt) => nL (by rw [z]; exact List.mem_of_getElem? gt))]; exact k5 _ _ eD, ll, nd, nL, nDH, fun i2 b2 h2 => ?_⟩, _, _, _, rfl⟩
        obtain ⟨m1, vs2, m2, m3⟩ := hb i2 b2 h2
        refine ⟨m1, ?_⟩
        rw [adj_take hr2]
        by_cases c2 : b2 = bt
        · subst c2
          have : i2 = r.1 := nd_inj nd h2 gt
          subst this
          rw [g2] at m2
          cases m2
          refine ⟨_, upd_same, ?_⟩
          rw [if_pos rfl]
          refine LV.snoc (m3.mono fun x r z => z.mono fun a xs e => tupk _ _ (k5 _ _ e)) ⟨p, rfl, tupk _ _ ep⟩
        · refine ⟨vs2, by rw [upd_ne c2]; exact k5 _ _ m2, ?_⟩
          have : ¬ r.1 = i2 := fun z => c2 (by rw [← z, gt] at h2; exact (Option.some.inj h2).symm)
          rw [if_neg this, List.append_nil]
          exact m3.mono fun x r z => z.mono fun a xs e => tupk _ _ (k5 _ _ e)
      · rintro σ' H2 ⟨pI, x4, x5, x6, rfl⟩
        rw [lv.1, List.take_length] at pI
        exact ⟨_, rfl, q _ _ pI.1 pI.lead⟩
end
end Vf

set_option Elab.async false
set_option linter.all false
set_option maxRecDepth 100000
set_option maxHeartbeats 4000000
namespace Vf
open PySem PySem.Spec PyProof.Rows L2 TL LamX
theorem cut_lastI (xs : List V) : cutV xs none (some (-1)) = xs.take (xs.length - 1) := by
  unfold cutV
  have e1 : HT.sIx xs.length 0 none = 0 := rfl
  have e2 : HT.sIx xs.length xs.length (some (-1)) = xs.length - 1 := by
    unfold HT.sIx
    simp
    omega
  rw [e1, e2, List.drop_zero, Nat.sub_zero]
section
variable {P : Program} {w : World} {K : PySem.W.Frag} {mg : Str → Option Value} {base : Heap}
theorem gives_bt (T : Txt K mg) (k j : Nat) (q : Str) (cdv : Value) : GivesS P w K mg base k j ["places", "leads", "bounds", "tails", "tail", "head", "cost", "total"] "_bounds_and_tails" (defScope s_bounds_and_tails) T.a_bounds_and_tails cdv (defBody s_bounds_and_tails) q ttBt := by
  intro A outer s H f c' v0 Q tl hr Lv hc htt
  have hrZ : Room (k + 1) (A.deeper (envOfC "_bounds_and_tails" (defScope s_bounds_and_tails) s.heap.objs.size T.a_bounds_and_tails cdv)) := hr.mono (by omega)
  obtain ⟨a, n, as, rfl, ea, ok, hl, q⟩ := htt
  have hn := ok.1
  have n7 := ok.2.1
  have lA := ok.2.2.1
  refine ⟨_, (pss_cons (ps_set (i := 2) sc_bounds_and_tails.nd rfl (.inl rfl) (pe_disp (pps_cons (pe_ix ix_list (pv 0) pe_int (fun _ _ => rfl)) pe_int pps_nil) rfl rfl (by simp) (by decide)))
      (pss_cons (ps_set (i := 3) sc_bounds_and_tails.nd rfl (.inl rfl) pe_dnewK)
      (pss_cons (ps_for PassesOwn.never rfl (pi_list (pe_slice sl_list (pv 0) po_none (po_some (pe_un un_neg pe_int)))) (pg_name (i := 4) sc_bounds_and_tails.nd rfl (.inl rfl)) (pss_one (ps_if (pt_cmp (pc_din (hu1 hr) (pv 4) (pv 2))) (pss_one (ps_for PassesOwn.never rfl (pi_list (pe_actS (i := 1) (c' := c') Lv hrZ rfl (Or.inl rfl) (pa_cons (pv 4) pa_nil))) (pg_tup (by rfl) (pgs_cons (pg_name (i := 5) sc_bounds_and_tails.nd rfl (.inl rfl)) (pgs_cons (pg_name (i := 6) sc_bounds_and_tails.nd rfl (.inl rfl)) pgs_nil))) (pss_cons (ps_set (i := 7) sc_bounds_and_tails.nd rfl (.inl rfl) (pe_op op_add (pe_dget (hu1 hr) (pv 2) (pv 4) (fun _ _ => rfl)) (pv 6)))
      (pss_one (ps_if (PW.pt (pw_or (pt_cmp (pc_dnotin (hu1 hr) (pv 5) (pv 2))) (pw_or1 (pt_cmpR op_lt (pv 7) (pe_dget (hu1 hr) (pv 2) (pv 5) (fun _ _ => rfl)) (nomark _))))) (pss_cons (ps_dput (hu1 hr) (pv 2) (pv 5) (pv 7) rfl)
      (pss_one (ps_dput (hu1 hr) (pv 3) (pv 5) (pv 4) rfl))) pss_nil))))) pss_nil)))
      (pss_one (ps_ret (pe_tup (pa_cons (pv 2) (pa_cons (pv 3) pa_nil)))))))), ?_⟩
  refine fun D1 nD1 => ?_
  have k1 := same_upd (o := .dK []) (Same.refl H) nD1
  refine ⟨_, rfl, a, _, _, _, rfl, rfl, SqL.of (k1 _ _ ea), atI_nat (j := 0) (by rw [List.getElem?_map, List.getElem?_range (by omega)]; rfl), ?_⟩
  refine ⟨upd_same, [(Sum.inl ((0 : Nat) : Int), nV 0)], rfl, (show 1 ≤ 15 by decide), ?_⟩
  have b1 : BdV (upd (upd H D1 (.dK [])) D1 (.dK (mergeK [] [(Sum.inl ((0 : Nat) : Int), nV 0)]))) D1 1 (fset (fun _ => none) 0 0) := ⟨_, upd_same, Nat.le_refl 1, fun j => by
    show valV (putK [] (Sum.inl ((0 : Nat) : Int)) (nV 0)) _ = _
    rw [valV_put]
    by_cases c : j = 0
    · subst c; rw [if_pos rfl, fset_same]; rfl
    · rw [if_neg (fun (z : (Sum.inl ((j : Nat) : Int) : Key) = Sum.inl ((0 : Nat) : Int)) => c (Int.ofNat.inj (Sum.inl.inj z))), fset_ne c]; rfl⟩
  have k2 := same_mut (o := .dK (mergeK [] [(Sum.inl ((0 : Nat) : Int), nV 0)])) k1 nD1
  generalize upd (upd H D1 (.dK [])) D1 (.dK (mergeK [] [(Sum.inl ((0 : Nat) : Int), nV 0)])) = H2 at b1 k2
  refine fun D2 nD2 => ?_
  have nD2H : H D2 = none := by
    cases e : H D2 with
    | none => rfl
    | some o => rw [k2 _ _ e] at nD2; cases nD2
  have nDD : D1 ≠ D2 := by
    obtain ⟨kvs, h1, _⟩ := b1
    exact ne_of_none h1 nD2
  have k3 := same_upd (o := .dK []) k2 nD2
  have b2 : BdV (upd H2 D2 (.dK [])) D1 1 (fset (fun _ => none) 0 0) := b1.keep fun o e => by rw [upd_ne nDD]; exact e
  have t2 : BdV (upd H2 D2 (.dK [])) D2 0 (fun _ => none) := ⟨[], upd_same, Nat.le_refl 0, fun _ => rfl⟩
  generalize upd H2 D2 (.dK []) = H3 at k3 b2 t2
  refine ⟨_, rfl, 1, rfl, _, rfl, a, _, rfl, SqL.of (k3 _ _ ea), fun C nC => ?_⟩
  have nCH : H C = none := by
    cases e : H C with
    | none => rfl
    | some o => rw [k3 _ _ e] at nC; cases nC
  have k4 := same_upd (o := .lst (cutV ((List.range n).map nV) none (some (-1)))) k3 nC
  have eC : upd H3 C (.lst (cutV ((List.range n).map nV) none (some (-1)))) C = some (.lst ((List.range (n - 1)).map nV)) := by
    rw [upd_same, cut_lastI, List.length_map, List.length_range, ← List.map_take, List.take_range, show min (n - 1) n = n - 1 by omega]
  have nD1C : D1 ≠ C := by
    obtain ⟨kvs, h1, _⟩ := b2
    exact ne_of_none h1 nC
  have nD2C : D2 ≠ C := by
    obtain ⟨kvs, h1, _⟩ := t2
    exact ne_of_none h1 nC
  have b4 := b2.keep (H' := upd H3 C (.lst (cutV ((List.range n).map nV) none (some (-1))))) fun o e => by rw [upd_ne nD1C]; exact e
  have t4 := t2.keep (H' := upd H3 C (.lst (cutV ((List.range n).map nV) none (some (-1))))) fun o e => by rw [upd_ne nD2C]; exact e
  generalize upd H3 C (.lst (cutV ((List.range n).map nV) none (some (-1)))) = H4 at k4 eC b4 t4
  have len1 : ((List.range (n - 1)).map nV).length = n - 1 := by rw [List.length_map, List.length_range]
  refine ⟨C, rfl, ⟨_, SqL.of eC⟩, ?_⟩
  refine for_it (walk_list (K := K) (a := C) (xs := (List.range (n - 1)).map nV)) (fun i σ' H' => ∃ (f1 g1 : Nat → Option Nat) (x4 x5 x6 x7 : Option V), σ' = [some (.ref a), some (.ref f), some (.ref D1), some (.ref D2), x4, x5, x6, x7] ∧ Same H H' ∧ H' C = some (.lst ((List.range (n - 1)).map nV)) ∧ BdV H' D1 (1 + 1000 * i) f1 ∧ BdV H' D2 (1000 * i) g1 ∧ Bd (fun r => r ∈ as ∧ r.1 < i) f1 g1) ⟨_, _, none, none, none, none, rfl, k4, eC, b4, t4, Bd.start.congr fun r => ⟨fun z => by omega, fun z => z.elim⟩⟩ ?_ ?_ ?_
  · rintro i σ' H' _ ⟨_, _, _, _, _, _, _, _, e, _⟩
    exact SqL.of e
  · rintro i x σ' H5 H6 hi ⟨f1, g1, x4, x5, x6, x7, rfl, k5, eC5, b5, t5, B⟩ ⟨rfl, hx⟩
    rw [len1] at hi
    rw [List.getElem?_map, List.getElem?_range (by omega)] at hx
    have hx : nV i = x := Option.some.inj hx
    subst hx
    have hn5 : (fun r : Arc => r ∈ as ∧ r.1 < i + 1) = fun r => (r ∈ as ∧ r.1 < i) ∨ (r ∈ as ∧ r.1 = i) := by
      funext r
      apply propext
      constructor
      · rintro ⟨h1, h2⟩
        by_cases c : r.1 < i
        · exact .inl ⟨h1, c⟩
        · exact .inr ⟨h1, by omega⟩
      · rintro (⟨h1, h2⟩ | ⟨h1, h2⟩)
        · exact ⟨h1, by omega⟩
        · exact ⟨h1, by omega⟩
    refine ⟨_, rfl, _, rfl, D1, _, rfl, b5.get i, ?_⟩
    cases hf : f1 i with
    | none =>
      refine ⟨false, rfl, f1, g1, _, _, _, _, rfl, k5, eC5, b5.keep' (by omega), t5.keep' (by omega), ?_⟩
      rw [hn5]
      exact B.none_ fun r hr => by rw [hr.2]; exact hf
    | some x =>
      refine ⟨true, rfl, ?_⟩
      refine ⟨rfl, _, rfl, _, rfl, k5 _ _ hc, hl i _ _ (by omega) k5 fun b vs eb nb lvb => ?_⟩
      have nbC : b ≠ C := fun z => nb (by rw [z]; exact nCH)
      have nb1 : b ≠ D1 := fun z => nb (by rw [z]; exact nD1)
      have nb2 : b ≠ D2 := fun z => nb (by rw [z]; exact nD2H)
      refine ⟨b, rfl, ⟨_, SqL.of eb⟩, ?_⟩
      have lad : (adj as i).length ≤ 91 := ok.2.2.2.2 i
      refine for_it (walk_list (K := K) (a := b) (xs := vs)) (fun m σ' H' => ∃ (f2 g2 : Nat → Option Nat) (x5 x6 x7 : Option V), σ' = [some (.ref a), some (.ref f), some (.ref D1), some (.ref D2), some (nV i), x5, x6, x7] ∧ Same H H' ∧ H' C = some (.lst ((List.range (n - 1)).map nV)) ∧ BdV H' D1 (1 + 1000 * i + m) f2 ∧ BdV H' D2 (1000 * i + m) g2 ∧ f2 i = some x ∧ Bd (fun r => (r ∈ as ∧ r.1 < i) ∨ (r.1 = i ∧ r.2 ∈ (adj as i).take m)) f2 g2 ∧ (∀ (a : Addr) xs, H6 a = some (.tup xs) → H' a = some (.tup xs)) ∧ H' b = some (.lst vs)) ⟨f1, g1, x5, x6, x7, rfl, k5, eC5, b5, t5, hf, B.congr (fun r => by simp), fun _ _ e => e, eb⟩ ?_ ?_ ?_
      · rintro m σ' H' _ ⟨_, _, _, _, _, _, _, _, _, _, _, _, _, e⟩
        exact SqL.of e
      · rintro m y σ' H7 H8 hm ⟨f2, g2, x5, x6, x7, rfl, k7, eC7, b7, t7, ff, B7, kt, eb7⟩ ⟨rfl, hy⟩
        obtain ⟨r, hr2, c, rfl, ec⟩ := lvb.at hy
        have hmem : (i, r) ∈ as := adj_mem.mp (List.mem_of_getElem? hr2)
        have hup := ok.2.2.2.1 _ hmem
        have hup : i < r.1 ∧ r.1 < n := hup
        have hm2 : m < (adj as i).length := (List.getElem?_eq_some_iff.mp hr2).1
        have hpr : ∀ r', ((r' ∈ as ∧ r'.1 < i) ∨ (r'.1 = i ∧ r'.2 ∈ (adj as i).take m)) → r'.1 ≤ i := fun r' h => by
          rcases h with h | h <;> omega
        have hnx : (fun r' : Arc => (r' ∈ as ∧ r'.1 < i) ∨ (r'.1 = i ∧ r'.2 ∈ (adj as i).take (m + 1))) = fun r' => ((r' ∈ as ∧ r'.1 < i) ∨ (r'.1 = i ∧ r'.2 ∈ (adj as i).take m)) ∨ r' = (i, r.1, r.2) := by
          funext r'
          apply propext
          rw [show (adj as i).take (m + 1) = (adj as i).take m ++ [r] by rw [List.take_succ, hr2]; rfl, List.mem_append, List.mem_singleton]
          constructor
          · rintro (h | ⟨h1, h2 | h2⟩)
            · exact .inl (.inl h)
            · exact .inl (.inr ⟨h1, h2⟩)
            · exact .inr (by rw [← h1, ← h2])
          · rintro ((h | ⟨h1, h2⟩) | h)
            · exact .inl h
            · exact .inr ⟨h1, .inl h2⟩
            · exact .inr ⟨by rw [h], .inr (by rw [h])⟩
        refine ⟨c, _, rfl, SqT.of (kt _ _ ec), rfl, _, _, rfl, _, _, rfl, rfl, ?_⟩
        have gi := b7.get i
        rw [ff] at gi
        refine ⟨_, rfl, _, rfl, D1, _, rfl, gi, _, rfl, _, _, rfl, rfl, ?_⟩
        have gh := b7.get r.1
        refine ⟨_, rfl, _, rfl, D1, _, rfl, gh, ?_⟩
        have put : (∀ y, f2 r.1 = some y → x + r.2 < y) → ∃ H9 H10, DPut H8 D1 (nV r.1) (nV (x + r.2)) H9 ∧ DPut H9 D2 (nV r.1) (nV i) H10 ∧ ∃ f3 g3, Same H H10 ∧ H10 C = some (.lst ((List.range (n - 1)).map nV)) ∧ BdV H10 D1 (1 + 1000 * i + (m + 1)) f3 ∧ BdV H10 D2 (1000 * i + (m + 1)) g3 ∧ f3 i = some x ∧ Bd (fun r => (r ∈ as ∧ r.1 < i) ∨ (r.1 = i ∧ r.2 ∈ (adj as i).take (m + 1))) f3 g3 ∧ (∀ (a : Addr) xs, H6 a = some (.tup xs) → H10 a = some (.tup xs)) ∧ H10 b = some (.lst vs) := fun lo => by
          obtain ⟨H9, p1, b9, o9, e9⟩ := b7.put (by omega) r.1 (x + r.2)
          have t9 : BdV H9 D2 (1000 * i + m) g2 := t7.keep fun o e => by rw [e9, upd_ne nDD.symm]; exact e
          obtain ⟨H10, p2, t10, o10, e10⟩ := t9.put (by omega) r.1 i
          have b10 : BdV H10 D1 (1 + 1000 * i + m + 1) (fset f2 r.1 (x + r.2)) := b9.keep fun o e => by rw [e10, upd_ne nDD]; exact e
          refine ⟨H9, H10, p1, p2, _, _, ?_, ?_, b10, t10, by rw [fset_ne (by omega)]; exact ff, ?_, fun a xs e => ?_, ?_⟩
          · rw [e10, e9]; exact same_mut (same_mut k7 nD1) nD2H
          · rw [e10, e9, upd_ne nD2C.symm, upd_ne nD1C.symm]; exact eC7
          · rw [hnx]; exact B7.put hpr hup.1 ff lo
          · have e2 := kt _ _ e
            obtain ⟨_, q1, _⟩ := b7
            obtain ⟨_, q2, _⟩ := t7
            rw [e10, e9, upd_ne (fun z => by rw [z, q2] at e2; cases e2), upd_ne (fun z => by rw [z, q1] at e2; cases e2)]; exact e2
          · rw [e10, e9, upd_ne nb2, upd_ne nb1]; exact eb7
        cases hh : f2 r.1 with
        | none =>
          rw [hh] at gh
          obtain ⟨H9, H10, p1, p2, f3, g3, r1, r2, r3, r4, r5, r6, r7, r8⟩ := put fun y h => by rw [hh] at h; cases h
          refine ⟨true, rfl, ?_⟩
          refine ⟨_, rfl, _, rfl, _, rfl, D1, H9, rfl, p1, ?_⟩
          refine ⟨_, rfl, _, rfl, _, rfl, D2, H10, rfl, p2, ?_⟩
          exact ⟨f3, g3, _, _, _, rfl, r1, r2, r3, r4, r5, r6, r7, r8⟩
        | some y =>
          have gh2 := gh
          rw [hh] at gh2
          rw [hh] at gh
          refine ⟨false, rfl, ?_⟩
          refine ⟨_, rfl, _, rfl, _, rfl, D1, _, rfl, gh2, _, _, rfl, rfl, ?_⟩
          by_cases lt : x + r.2 < y
          · obtain ⟨H9, H10, p1, p2, f3, g3, r1, r2, r3, r4, r5, r6, r7, r8⟩ := put fun y' h => by rw [hh] at h; have := Option.some.inj h; omega
            refine ⟨true, bTr (by omega), ?_⟩
            refine ⟨_, rfl, _, rfl, _, rfl, D1, H9, rfl, p1, ?_⟩
            refine ⟨_, rfl, _, rfl, _, rfl, D2, H10, rfl, p2, ?_⟩
            exact ⟨f3, g3, _, _, _, rfl, r1, r2, r3, r4, r5, r6, r7, r8⟩
          · refine ⟨false, bFa (by omega), ?_⟩
            refine ⟨f2, g2, _, _, _, rfl, k7, eC7, b7.keep' (by omega), t7.keep' (by omega), ff, ?_, kt, eb7⟩
            rw [hnx]; exact B7.skip hpr hup.1 ff hh (by omega)
      · rintro σ' H7 ⟨f2, g2, x5, x6, x7, rfl, k7, eC7, b7, t7, ff, B7, kt, eb7⟩
        have em : vs.length = (adj as i).length := lvb.1
        refine ⟨f2, g2, _, _, _, _, rfl, k7, eC7, b7.keep' (by omega), t7.keep' (by omega), ?_⟩
        rw [hn5]
        refine B7.congr fun r => ?_
        rw [em, List.take_length, adj_mem]
        constructor
        · rintro (h | ⟨h1, h2⟩)
          · exact .inl h
          · exact .inr ⟨h2, by rw [← h2]; exact h1⟩
        · rintro (h | ⟨h1, h2⟩)
          · exact .inl h
          · exact .inr ⟨by rw [← h1] at h2; exact h2, h1⟩
  · rintro σ' H5 ⟨f1, g1, x4, x5, x6, x7, rfl, k5, eC5, b5, t5, B⟩
    rw [len1] at B
    refine ⟨_, rfl, _, rfl, by show 2 ≤ sizeLine; decide, fun R nR => ?_⟩
    have nD1R : D1 ≠ R := by
      obtain ⟨kvs, h1, _⟩ := b5
      exact ne_of_none h1 nR
    have nD2R : D2 ≠ R := by
      obtain ⟨kvs, h1, _⟩ := t5
      exact ne_of_none h1 nR
    exact q (upd H5 R (.tup [.ref D1, .ref D2])) R D1 D2 f1 g1 (1 + 1000 * ((List.range (n - 1)).map nV).length) (same_upd k5 nR) upd_same (b5.keep fun o e => by rw [upd_ne nD1R]; exact e) ((t5.keep' (by omega)).keep fun o e => by rw [upd_ne nD2R]; exact e) (B.congr fun r => ⟨fun h => ⟨h, by have := ok.2.2.2.1 r h; omega⟩, fun h => h.1⟩)
end
end Vf

set_option Elab.async false
set_option linter.all false
set_option maxRecDepth 100000
set_option maxHeartbeats 4000000
namespace Vf
open PySem PySem.Spec PyProof.Rows L2 TL LamX
section
variable {P : Program} {w : World} {K : PySem.W.Frag} {mg : Str → Option Value} {base : Heap}
def spBoundsOf (Pt Pb : Addr) : Sp := fun vs H Q _ => ∃ (v : V) (n : Nat) (as : List Arc), vs = [v] ∧ NetV H v n as ∧ NetOk n as ∧ Tabs [(Pt, lamQ), (Pb, lamB)] H ∧
  ∀ (H' : Hp) (r : Addr) (f g : Nat → Option Nat), ExtN H H' → Tabs [(Pt, lamQ), (Pb, lamB)] H' → H' r = some (.tup ((List.range n).map fun i => oN (f i))) → Bd (· ∈ as) f g → Q (.ref r) H'
theorem ok_bounds_of (T : Txt K mg) {c Pt Pb : Addr} (hcode : T.d_bounds_of.code = .ref c) (TB2 : TabB base mg c Pb) (hne : Pt ≠ Pb) : FnOk P w K mg base CX0 3 T.a_bounds_of T.d_bounds_of ["net"] (spBoundsOf Pt Pb) := by
  have G_leading : FnOk P w K mg base CX0 1 T.a_leading T.d_leading ["net"] spLeading := ok_leading T
  obtain ⟨oc, od, kV, doc, pm, an, cdv, ct, osl, efd, lk, hcd⟩ := T.D_bounds_of.F.ex
  obtain ⟨oc2, od2, kV2, doc2, pm2, an2, cdv2, ct2, osl2, efd2, lk2, hcd2⟩ := T.D_bounds_and_tails.F.ex
  have hb2 := T.D_bounds_and_tails.B
  rw [efd2] at lk2 hb2
  rw [efd] at lk hcode
  rw [efd]
  have hcdv : cdv = .ref c := hcode
  subst hcdv
  refine fn_of lk hcd sc_bounds_of (fun vs H Q E h => ?_) (fun A outer s H vs Q E hr h => ?_)
  · obtain ⟨v, n, as, rfl, _⟩ := h
    rfl
  · obtain ⟨v, n, as, rfl, nv, ok, hT, q⟩ := h
    suffices h : ∃ t, PSs (cxOf CX0 P w K mg base ["net", "leading", "nodes", "bounds", "node"] "bounds_of" (defScope s_bounds_of) T.a_bounds_of (.ref c) A outer s H E).nox (defBody s_bounds_of) t ∧ t { nx := fun _ H' => Q .non H', rt := Q } (L2.start ["net", "leading", "nodes", "bounds", "node"] [v]) H by
      obtain ⟨t, h1, h2⟩ := h
      exact ⟨t, h1.nox, h2⟩
    refine ⟨_, (pss_cons (ps_set (i := 1) sc_bounds_of.nd rfl (.inr rfl) (pe_call G_leading (hr.mono (by decide)) (by rfl) T.D_leading.G T.D_leading.F.kp T.D_leading.B .nil pass0 (pa_cons (pv 0) pa_nil)))
      (pss_cons (ps_set (i := 2) sc_bounds_of.nd rfl (.inl rfl) (pe_listRg (by rfl) (by rfl) T.n_list (prg_1 (by rfl) T.n_range (pe_ix ix_tup (pv 0) pe_int (fun _ _ => rfl)))))
      (pss_cons (ps_set (i := 3) sc_bounds_of.nd rfl (.inr rfl) (pe_ix ix_tup (pe_lamcallS (k := 0) (j := 0) (ip := 4) (T := [(Pt, lamQ), (Pb, lamB)]) (TT := ttBt) (by rfl) T.D_bounds_and_tails.G T.D_bounds_and_tails.F.kp lk2 hcd2 hb2 sc_bounds_and_tails (gives_bt T 0 0 _ _) (pv 2) TB2 rfl (List.mem_cons_of_mem _ List.mem_cons_self) (two_u2 hne) (hr.mono (by decide)) (lamP_by (sc := defScope s_bounds_of) (N := ["net", "leading", "nodes", "bounds", "node"]) (p := "node") (by decide +kernel)) rfl (fun _ _ _ _ _ _ => rfl) (fun A outer s H f c' hr2 => pe_ix (r := rIxL K) ix_list (pv 1) (pv 4) (fun _ _ => rfl))) pe_int (fun _ _ => rfl)))
      (pss_one (ps_ret (pe_callTy call_tuple_of (by rfl) T.n_tuple (by decide +kernel) (pa_cons (pe_lc (own := [("node", 4)]) (g := gName 4) (tt := tYes) rfl sc_bounds_of.nd (pi_list (pv 2)) (blkOk_by (own := [("node", 4)]) (N := ["net", "leading", "nodes", "bounds", "node"]) (sc := (defScope s_bounds_of)) (by decide +kernel)) (fun _ _ _ _ _ => (pg_name (i := 4) sc_bounds_of.nd rfl (.inl rfl))) (fun _ _ _ _ _ => pts_nil) (fun _ _ _ _ _ => (pe_dget1 (hu1 hr) (pv 3) (pv 4) ⟨rfl, rfl, rfl, rfl⟩))) pa_nil))))))), ?_⟩
    have hn := ok.1
    have n7 := ok.2.1
    refine ⟨_, rfl, v, n, as, rfl, nv, ok, fun H1 L k1 ld => ?_⟩
    obtain ⟨na, pa, us, rfl, e1, e2, lv⟩ := id nv
    refine ⟨_, rfl, na, _, 0, _, rfl, rfl, SqT.of (k1 _ _ e1), rfl, (n : Int), rfl, ⟨by omega, by omega, by omega, by omega⟩, fun N1 nN => ?_⟩
    have k2 := same_upd (o := .lst (rgV 0 (n : Int))) k1 nN
    have eN : upd H1 N1 (.lst (rgV 0 (n : Int))) N1 = some (.lst ((List.range n).map nV)) := by rw [upd_same, rgV_nats]
    have ld2 : LeadV (upd H1 N1 (.lst (rgV 0 (n : Int)))) L n as := by
      have k := same_upd (o := .lst (rgV 0 (n : Int))) (Same.refl H1) nN
      obtain ⟨ls, g1, g2, g3⟩ := ld
      refine ⟨ls, k _ _ g1, g2, fun i hi => ?_⟩
      obtain ⟨b, vs, m1, m2, m3⟩ := g3 i hi
      exact ⟨b, vs, m1, k _ _ m2, m3.mono fun x r z => z.mono fun a xs e => k _ _ e⟩
    generalize upd H1 N1 (.lst (rgV 0 (n : Int))) = H2 at k2 eN ld2
    obtain ⟨ls, g1, g2, g3⟩ := ld2
    refine ⟨_, rfl, hT.ext k2, fun H3 x3 T3 => ?_⟩
    have nt : ∀ (a : Addr) o, H2 a = some o → (∀ ps, o ≠ .tbl ps) → H3 a = some o := x3
    refine ⟨N1, n, as, rfl, nt _ _ eN (fun _ z => by cases z), ok, fun i H' Q' hi k' hq => ?_, fun H4 B D1 D2 f g M k4 eB b4 t4 bd => ?_⟩
    · obtain ⟨b, vs, m1, m2, m3⟩ := g3 i hi
      have m4 := nt _ _ m2 (fun _ z => by cases z)
      refine ⟨_, rfl, _, rfl, L, _, _, _, rfl, rfl, SqL.of (k' _ _ (nt _ _ g1 (fun _ z => by cases z))), atI_nat m1, ?_⟩
      exact hq b vs (k' _ _ m4) (by rw [m4]; exact fun z => by cases z) (m3.mono fun x r z => z.mono fun a xs e => k' _ _ (nt _ _ e (fun _ z => by cases z)))
    · have eN4 := k4 _ _ (nt _ _ eN (fun _ z => by cases z))
      refine ⟨B, _, 0, _, rfl, rfl, SqT.of eB, rfl, ?_⟩
      refine ⟨_, rfl, N1, rfl, ⟨_, SqL.of eN4⟩, fun C nC => ?_⟩
      have nD1 : D1 ≠ C := by
        obtain ⟨kvs, h1, _⟩ := b4
        exact ne_of_none h1 nC
      have len : ((List.range n).map nV).length = n := by rw [List.length_map, List.length_range]
      refine lc_it (walk_list (K := K) (a := N1) (xs := (List.range n).map nV)) (fun i H' => Same H4 H' ∧ H' C = some (.lst ((List.range i).map fun i => oN (f i)))) ⟨same_upd (Same.refl H4) nC, upd_same⟩ ?_ ?_ ?_
      · rintro i H' _ ⟨k, _⟩
        exact SqL.of (k _ _ eN4)
      · rintro i x H5 H6 hi ⟨k5, eC⟩ ⟨rfl, hx⟩
        rw [len] at hi
        rw [List.getElem?_map, List.getElem?_range hi] at hx
        have hx : nV i = x := Option.some.inj hx
        subst hx
        have b5 := b4.keep (k5 D1)
        obtain ⟨kvs, h1, h2⟩ := id b5
        refine ⟨rfl, _, rfl, D1, rfl, .inl ⟨kvs, .inl h1⟩, _, rfl, _, b5.get i, _, eC, by rw [List.length_map, List.length_range]; exact szN (by omega), same_mut k5 nC, ?_⟩
        have ev : (((f i).map nV).getD .non) = oN (f i) := by cases f i <;> rfl
        rw [upd_same, ev, List.range_succ, List.map_append]; rfl
      · rintro H5 ⟨k5, eC⟩
        rw [len] at eC
        refine ⟨C, _, rfl, .inl ⟨SqL.of eC, fun r nr => ?_⟩⟩
        have k6 := same_upd (o := .tup ((List.range n).map fun i => oN (f i))) (k4.trans k5) nr
        exact q _ r f g ((ExtN.of k2).trans (x3.trans (ExtN.of k6))) (T3.ext k6) upd_same bd
end
end Vf

set_option Elab.async false
set_option linter.all false
set_option maxRecDepth 100000
set_option maxHeartbeats 4000000
namespace Vf
open PySem PySem.Spec PyProof.Rows L2 TL
def pg (ps : List (Option Int)) (i : Nat) : Option Int := ps.getD i none
theorem pg_at {ps : List (Option Int)} {i : Nat} (h : i < ps.length) : (ps.map oV)[i]? = some (oV (pg ps i)) := by
  unfold pg
  rw [List.getElem?_map, List.getElem?_eq_getElem h, List.getD_eq_getElem?_getD, List.getElem?_eq_getElem h]; rfl
theorem pg_last {ps : List (Option Int)} (h : 0 < ps.length) : atI (ps.map oV) (-1) = some (oV (pg ps (ps.length - 1))) := by
  have e := pg_at (ps := ps) (i := ps.length - 1) (by omega)
  have hl : (ps.map oV).length = ps.length := List.length_map _
  generalize oV (pg ps (ps.length - 1)) = v at e
  have e2 : ps.map oV = (ps.map oV).take (ps.length - 1) ++ [v] := by
    have h3 := List.take_append_drop (ps.length - 1) (ps.map oV)
    have h4 : (ps.map oV).drop (ps.length - 1) = [v] := by
      rw [List.drop_eq_getElem_cons (by omega)]
      have h5 := List.getElem?_eq_some_iff.mp e
      rw [h5.2, List.drop_eq_nil_of_le (by omega)]
    rw [h4] at h3
    exact h3.symm
  rw [e2]
  exact atI_last _ _
def arcBad (ps : List (Option Int)) (a : Arc) : Bool := match pg ps a.1 with
  | none => false
  | some x => match pg ps a.2.1 with
    | none => true
    | some y => decide (x + (a.2.2 : Int) < y)
def paperOk (n : Nat) (as : List Arc) (t : Option Int) (ps : List (Option Int)) : Bool :=
  decide (ps.length = n) && decide (pg ps 0 = some 0) && decide (pg ps (n - 1) = t) && as.all fun a => !arcBad ps a
theorem scal_o : ∀ a b : Option Int, scal (oV a) (oV b) = true
  | none, none => rfl
  | none, some _ => rfl
  | some _, none => rfl
  | some _, some _ => rfl
theorem judge_bad {n : Nat} {as : List Arc} {t : Option Int} {ps : List (Option Int)} (h : ¬ (ps.length = n ∧ pg ps 0 = some 0 ∧ pg ps (n - 1) = t)) : paperOk n as t ps = false := by
  unfold paperOk
  by_cases h1 : ps.length = n
  · by_cases h2 : pg ps 0 = some 0
    · have h3 : ¬ pg ps (n - 1) = t := fun h3 => h ⟨h1, h2, h3⟩
      rw [decide_eq_false h3, Bool.and_false]; rfl
    · rw [decide_eq_false h2, Bool.and_false]; rfl
  · rw [decide_eq_false h1]; rfl
theorem judge_good {n : Nat} {as : List Arc} {t : Option Int} {ps : List (Option Int)} (h1 : ps.length = n) (h2 : pg ps 0 = some 0) (h3 : pg ps (n - 1) = t) (h4 : ∀ (j : Nat) (a : Arc), as[j]? = some a → arcBad ps a = false) : paperOk n as t ps = true := by
  unfold paperOk
  rw [decide_eq_true h1, decide_eq_true h2, decide_eq_true h3]
  show (as.all fun a => !arcBad ps a) = true
  rw [List.all_eq_true]
  intro a ha
  obtain ⟨j, hj, e⟩ := List.mem_iff_getElem.mp ha
  rw [h4 j a (by rw [List.getElem?_eq_getElem hj, e])]; rfl
theorem judge_arc {n : Nat} {as : List Arc} {t : Option Int} {ps : List (Option Int)} {j : Nat} {a : Arc} (e : as[j]? = some a) (h : arcBad ps a = true) : paperOk n as t ps = false := by
  unfold paperOk
  have : (as.all fun a => !arcBad ps a) = false := by
    rw [List.all_eq_false]
    exact ⟨a, List.mem_of_getElem? e, by rw [h]; decide⟩
  rw [this, Bool.and_false]
section
variable {P : Program} {w : World} {K : PySem.W.Frag} {mg : Str → Option Value} {base : Heap}
def spJudge (K : PySem.W.Frag) : Sp := fun vs H Q _ => ∃ (v : V) (b : Addr) (n : Nat) (as : List Arc) (t : Option Int) (ps : List (Option Int)), vs = [v, oV t, .ref b] ∧ NetV H v n as ∧ NetOk n as ∧ SqT K H b (ps.map oV) ∧ Q (.bl (paperOk n as t ps)) H
theorem ok_judge (T : Txt K mg) : FnOk P w K mg base CX0 1 T.a_judge_bounds T.d_judge_bounds ["net", "total", "bounds"] (spJudge K) := by
  refine T.D_judge_bounds.F.ok sc_judge_bounds (fun vs H Q E h => ?_) (fun cdv A outer s H vs Q E hr h => ?_)
  · obtain ⟨v, b, n, as, t, ps, rfl, _⟩ := h
    rfl
  · obtain ⟨v, b, n, as, t, ps, rfl, ⟨na, pa, us, rfl, e1, e2, lv⟩, ok, eb, q⟩ := h
    refine ⟨_, (pss_cons (ps_asg (pv 0) (pg_tup (by rfl) (pgs_cons (pg_name (i := 3) sc_judge_bounds.nd rfl (.inl rfl)) (pgs_cons (pg_name (i := 4) sc_judge_bounds.nd rfl (.inl rfl)) pgs_nil))))
      (pss_cons (ps_if (PW.pt (pw_or (pt_cmpR op_ne (pe_callB call_len_seq (by rfl) T.n_len PySem.boot_len (pa_cons (pv 2) pa_nil)) (pv 3) (nomark _)) (pw_or (pt_cmpR op_ne (pe_ix ix_tup (pv 2) pe_int (fun _ _ => rfl)) pe_int (nomark _)) (pw_or1 (pt_cmpR op_ne (pe_ix ix_tup (pv 2) (pe_un un_neg pe_int) (fun _ _ => rfl)) (pv 1) (nomark _)))))) (pss_one (ps_ret pe_bl)) pss_nil)
      (pss_cons (ps_for PassesOwn.never rfl (pi_tup (pv 4)) (pg_tup (by rfl) (pgs_cons (pg_name (i := 5) sc_judge_bounds.nd rfl (.inl rfl)) (pgs_cons (pg_name (i := 6) sc_judge_bounds.nd rfl (.inl rfl)) (pgs_cons (pg_name (i := 7) sc_judge_bounds.nd rfl (.inl rfl)) pgs_nil)))) (pss_one (ps_if (PW.pt (pw_and (pt_cmpR op_notN (pe_ix ix_tup (pv 2) (pv 5) (fun _ _ => rfl)) pe_non (nomark _)) (pw_and1 (PW.pt (pw_or (pt_cmpR op_isN (pe_ix ix_tup (pv 2) (pv 6) (fun _ _ => rfl)) pe_non (nomark _)) (pw_or1 (pt_cmpR op_gt (pe_ix ix_tup (pv 2) (pv 6) (fun _ _ => rfl)) (pe_op op_add (pe_ix ix_tup (pv 2) (pv 5) (fun _ _ => rfl)) (pv 7)) (nomark _)))))))) (pss_one (ps_ret pe_bl)) pss_nil)))
      (pss_one (ps_ret pe_bl))))), ?_⟩
    refine ⟨_, rfl, na, _, rfl, SqT.of e1, rfl, _, _, rfl, _, _, rfl, rfl, ?_⟩
    refine ⟨_, rfl, b, _, rfl, .inr eb, ?_⟩
    have hn := ok.1
    have n7 := ok.2.1
    by_cases h1 : ps.length = n
    case neg =>
      refine ⟨_, rfl, rfl, true, bNF (fun z => h1 ?_), ?_⟩
      · have := V.int.inj z
        rw [List.length_map] at this
        exact Int.ofNat.inj this
      rw [judge_bad fun z => h1 z.1] at q
      exact q
    refine ⟨_, rfl, rfl, false, bNT (by rw [List.length_map, h1]; rfl), ?_⟩
    have g0 := pg_at (ps := ps) (i := 0) (by omega)
    refine ⟨_, rfl, b, _, _, _, rfl, rfl, eb, atI_nat g0, scal_o _ (some 0), ?_⟩
    by_cases h2 : pg ps 0 = some 0
    case neg =>
      refine ⟨true, bNF (fun z => h2 (oV_inj (b := some 0) z)), ?_⟩
      rw [judge_bad fun z => h2 z.2.1] at q
      exact q
    refine ⟨false, bNT (by rw [h2]; rfl), ?_⟩
    refine ⟨_, rfl, 1, rfl, b, _, -1, _, rfl, rfl, eb, pg_last (by omega), _, rfl, scal_o _ _, ?_⟩
    by_cases h3 : pg ps (n - 1) = t
    case neg =>
      refine ⟨true, bNF (fun z => h3 (by rw [h1] at z; exact oV_inj z)), ?_⟩
      rw [judge_bad fun z => h3 z.2.2] at q
      exact q
    refine ⟨false, bNT (by rw [h1, h3]), ?_⟩
    refine ⟨_, rfl, pa, rfl, ⟨us, SqT.of e2⟩, ?_⟩
    refine for_it (walk_tup (K := K) (a := pa) (xs := us)) (fun i σ' H' => H' = H ∧ (∀ (j : Nat) (a : Arc), j < i → as[j]? = some a → arcBad ps a = false) ∧ ∃ (x5 x6 x7 : Option V), σ' = [some (.ref na), some (oV t), some (.ref b), some (nV n), some (.ref pa), x5, x6, x7]) ⟨rfl, fun j a h => absurd h (Nat.not_lt_zero _), none, none, none, rfl⟩ ?_ ?_ ?_
    · rintro i σ' H' _ ⟨rfl, _⟩
      exact SqT.of e2
    · rintro i x σ' H2 H3 hi ⟨rfl, hb, x5, x6, x7, rfl⟩ ⟨rfl, hx⟩
      obtain ⟨r, hr, c, rfl, ec⟩ := lv.at hx
      have hm := ok.2.2.2.1 r (List.mem_of_getElem? hr)
      refine ⟨c, _, rfl, SqT.of ec, rfl, _, _, rfl, _, _, rfl, _, _, rfl, rfl, ?_⟩
      have gt := pg_at (ps := ps) (i := r.1) (by omega)
      have gh := pg_at (ps := ps) (i := r.2.1) (by omega)
      refine ⟨_, rfl, _, rfl, b, _, _, _, rfl, rfl, eb, atI_nat gt, rfl, ?_⟩
      have nxt : arcBad ps r = false → ∀ (j : Nat) (a : Arc), j < i + 1 → as[j]? = some a → arcBad ps a = false := by
        intro h0 j a hj ea
        by_cases hji : j < i
        · exact hb j a hji ea
        · have : j = i := by omega
          subst this
          rw [hr] at ea
          rw [← Option.some.inj ea]; exact h0
      cases h4 : pg ps r.1 with
      | none =>
        exact ⟨false, bNT rfl, rfl, nxt (by unfold arcBad; rw [h4]), _, _, _, rfl⟩
      | some x =>
        rw [h4] at gt
        refine ⟨true, bNF (fun z => by cases z), ?_⟩
        refine ⟨_, rfl, _, rfl, b, _, _, _, rfl, rfl, eb, atI_nat gh, rfl, ?_⟩
        cases h5 : pg ps r.2.1 with
        | none =>
          rw [judge_arc hr (by unfold arcBad; rw [h4, h5])] at q
          exact ⟨true, bTr rfl, q⟩
        | some y =>
          rw [h5] at gh
          refine ⟨false, bFa (fun z => by cases z), ?_⟩
          refine ⟨_, rfl, _, rfl, b, _, _, _, rfl, rfl, eb, atI_nat gh, _, rfl, _, rfl, b, _, _, _, rfl, rfl, eb, atI_nat gt, _, rfl, _, _, rfl, rfl, _, _, rfl, rfl, ?_⟩
          by_cases h6 : x + (r.2.2 : Int) < y
          · rw [judge_arc hr (by unfold arcBad; rw [h4, h5]; exact decide_eq_true h6)] at q
            exact ⟨true, bTr h6, q⟩
          · exact ⟨false, bFa h6, rfl, nxt (by unfold arcBad; rw [h4, h5]; exact decide_eq_false h6), _, _, _, rfl⟩
    · rintro σ' H' ⟨rfl, hb, x5, x6, x7, rfl⟩
      rw [judge_good h1 h2 h3 fun j a e => hb j a (by rw [lv.1]; exact (List.getElem?_eq_some_iff.mp e).1) e] at q
      exact q
end
end Vf

set_option Elab.async false
set_option linter.all false
set_option maxRecDepth 100000
set_option maxHeartbeats 4000000
namespace Vf
open PySem PySem.Spec PyProof.Rows L2 TL LamX
/-! ### k23: least prices, papers, totals -/
def lsO (n : Nat) (f : Nat → Option Nat) : List V := (List.range n).map fun i => oN (f i)
theorem lsO_at {n : Nat} {f : Nat → Option Nat} {i : Nat} (h : i < n) : (lsO n f)[i]? = some (oN (f i)) := by
  unfold lsO
  rw [List.getElem?_map, List.getElem?_range h]; rfl
theorem lsO_len (n : Nat) (f : Nat → Option Nat) : (lsO n f).length = n := by unfold lsO; rw [List.length_map, List.length_range]
theorem lsO_set {n : Nat} {f : Nat → Option Nat} {b y : Nat} (h : b < n) : (lsO n f).set b (nV y) = lsO n (fset f b y) := by
  refine List.ext_getElem? fun i => ?_
  by_cases c : i < n
  · rw [lsO_at c]
    by_cases e : i = b
    · subst e
      rw [List.getElem?_set_self (by rw [lsO_len]; exact c), fset_same]; rfl
    · rw [List.getElem?_set_ne (Ne.symm e), lsO_at c, fset_ne e]
  · rw [List.getElem?_eq_none (by rw [List.length_set, lsO_len]; omega), List.getElem?_eq_none (by rw [lsO_len]; omega)]
/-- rows of a net -/
structure RowsA (n : Nat) (as : List Arc) : Prop where
  n1 : 1 ≤ n
  n91 : n ≤ 91
  up : ∀ a ∈ as, a.1 < a.2.1 ∧ a.2.1 < n
  ad : ∀ v, (adjT as v).length ≤ 91
section
variable {P : Program} {w : World} {K : PySem.W.Frag} {mg : Str → Option Value} {base : Heap}
def spLp : Sp := fun vs H Q _ => ∃ (R : Addr) (rs : List V) (n : Nat) (as : List Arc) (f g : Nat → Option Nat), vs = [.ref R] ∧ H R = some (.lst rs) ∧ LV (AdjV H) rs ((List.range n).map (adjT as)) ∧ RowsA n as ∧ Bd (· ∈ as) f g ∧
  ∀ H' L, Same H H' → H' L = some (.lst (lsO n f)) → Q (.ref L) H'
theorem ok_lp (T : Txt K mg) : FnOk P w K mg base CX0 1 T.a_law_least_prices T.d_law_least_prices ["_law_rows"] spLp := by
  refine T.D_law_least_prices.F.ok sc_law_least_prices (fun vs H Q E h => ?_) (fun cdv A outer s H vs Q E hr h => ?_)
  · obtain ⟨_, _, _, _, _, _, rfl, _⟩ := h
    rfl
  · obtain ⟨R, rs, n, as, f, g, rfl, eR, lR, ra, bd, q⟩ := h
    have n1 := ra.n1
    have n91 := ra.n91
    have lrn := lR.1
    rw [List.length_map, List.length_range] at lrn
    refine ⟨_, (pss_cons (ps_set (i := 1) sc_law_least_prices.nd rfl (.inl rfl) (pe_op op_rep (pe_lst (pa_cons pe_non pa_nil)) (pe_callB call_len_seq (by rfl) T.n_len PySem.boot_len (pa_cons (pv 0) pa_nil))))
      (pss_cons (ps_asg pe_int (pg_sub (pv 1) pe_int set_list))
      (pss_cons (ps_for PassesOwn.never rfl (pi_range1 (by rfl) T.n_range (pa_cons (pe_callB call_len_seq (by rfl) T.n_len PySem.boot_len (pa_cons (pv 0) pa_nil)) pa_nil)) (pg_name (i := 2) sc_law_least_prices.nd rfl (.inl rfl)) (pss_one (ps_if (pt_cmpR op_notN (pe_ix ix_list (pv 1) (pv 2) (fun _ _ => rfl)) pe_non (nomark _)) (pss_one (ps_for PassesOwn.never rfl (pi_list (pe_ix ix_list (pv 0) (pv 2) (fun _ _ => rfl))) (pg_tup (by rfl) (pgs_cons (pg_name (i := 3) sc_law_least_prices.nd rfl (.inl rfl)) (pgs_cons (pg_name (i := 4) sc_law_least_prices.nd rfl (.inl rfl)) pgs_nil))) (pss_one (ps_if (PW.pt (pw_or (pt_cmpR op_isN (pe_ix ix_list (pv 1) (pv 3) (fun _ _ => rfl)) pe_non (nomark _)) (pw_or1 (pt_cmpR op_lt (pe_op op_add (pe_ix ix_list (pv 1) (pv 2) (fun _ _ => rfl)) (pv 4)) (pe_ix ix_list (pv 1) (pv 3) (fun _ _ => rfl)) (nomark _))))) (pss_one (ps_asg (pe_op op_add (pe_ix ix_list (pv 1) (pv 2) (fun _ _ => rfl)) (pv 4)) (pg_sub (pv 1) (pv 3) set_list))) pss_nil)))) pss_nil)))
      (pss_one (ps_ret (pv 1)))))), ?_⟩
    refine ⟨by show 1 ≤ sizeLine; decide, fun L0 nL0 => ?_⟩
    have s0 := same_upd (o := .lst [V.non]) (Same.refl H) nL0
    refine ⟨_, rfl, R, rs, rfl, .inl (SqL.of (s0 _ _ eR)), ?_⟩
    refine ⟨L0, _, [V.non], rfl, rfl, upd_same, by omega, by omega, by simp; exact Nat.le_of_lt (szN (by omega)), fun B nB => ?_⟩
    have eRp : (List.replicate ((rs.length : Nat) : Int).toNat [V.non]).flatten = lsO n fun _ => none := by
      rw [Int.toNat_natCast, lrn]
      have e1 : lsO n (fun _ => none) = List.replicate n V.non := by
        unfold lsO
        rw [show (fun _ : Nat => oN none) = Function.const Nat V.non from rfl, List.map_const, List.length_range]
      rw [e1]
      clear e1 lrn n1 n91 lR ra eR q bd
      induction n with
      | zero => rfl
      | succ n ih => rw [List.replicate_succ, List.flatten_cons, ih, List.replicate_succ]; rfl
    have s1 := same_upd (o := .lst (List.replicate ((rs.length : Nat) : Int).toNat [V.non]).flatten) (Same.refl _) nB
    have sA := s0.trans s1
    have eB : upd (upd H L0 (.lst [V.non])) B (.lst (List.replicate ((rs.length : Nat) : Int).toNat [V.non]).flatten) B = some (.lst (lsO n fun _ => none)) := by rw [← eRp]; exact upd_same
    have nBH : H B = none := Same.free s0 nB
    generalize upd (upd H L0 (.lst [V.non])) B (.lst (List.replicate ((rs.length : Nat) : Int).toNat [V.non]).flatten) = H2 at sA eB
    refine ⟨_, rfl, B, _, 0, 0, rfl, rfl, eB, ixN_nat (j := 0) (by rw [lsO_len]; omega), ?_⟩
    have k3 : Same H (upd H2 B (.lst ((lsO n fun _ => none).set 0 (V.int 0)))) := same_mut sA nBH
    have eB3 : upd H2 B (.lst ((lsO n fun _ => none).set 0 (V.int 0))) B = some (.lst (lsO n (fset (fun _ => none) 0 0))) := by
      rw [upd_same]
      exact congrArg (fun z => some (HO.lst z)) (lsO_set (b := 0) (y := 0) (by omega))
    generalize upd H2 B (.lst ((lsO n fun _ => none).set 0 (V.int 0))) = H3 at k3 eB3
    refine ⟨_, rfl, R, rs, rfl, .inl (SqL.of (k3 _ _ eR)), (rs.length : Int), rfl, by omega, by omega, ?_⟩
    rw [Int.toNat_natCast, lrn]
    refine for_it walk_range (fun a σ' H' => ∃ (x2 x3 x4 : Option V) (f1 g1 : Nat → Option Nat), σ' = [some (.ref R), some (.ref B), x2, x3, x4] ∧ Same H H' ∧ H' B = some (.lst (lsO n f1)) ∧ Bd (fun r => r ∈ as ∧ r.1 < a) f1 g1) ⟨none, none, none, _, _, rfl, k3, eB3, Bd.start.congr fun r => ⟨fun h => absurd h.2 (Nat.not_lt_zero _), fun h => False.elim h⟩⟩ (fun _ _ _ _ _ => trivial) ?_ ?_
    · rintro a x σ' H0 H4 ha ⟨x2, x3, x4, f1, g1, rfl, k4, eB4, B1⟩ ⟨rfl, hx⟩
      have hx : x = nV a := by rw [hx]; exact int0 a
      subst hx
      have nx : (fun r : Arc => r ∈ as ∧ r.1 < a + 1) = fun r => (r ∈ as ∧ r.1 < a) ∨ (r ∈ as ∧ r.1 = a) := by
        funext r
        apply propext
        constructor
        · rintro ⟨h1, h2⟩
          by_cases c : r.1 < a
          · exact .inl ⟨h1, c⟩
          · exact .inr ⟨h1, by omega⟩
        · rintro (⟨h1, h2⟩ | ⟨h1, h2⟩)
          · exact ⟨h1, by omega⟩
          · exact ⟨h1, by omega⟩
      have ea := lsO_at (f := f1) ha
      cases hf : f1 a with
      | none =>
        rw [hf] at ea
        refine ⟨_, rfl, _, rfl, B, _, _, _, rfl, rfl, SqL.of eB4, atI_nat ea, rfl, _, rfl, ?_⟩
        refine ⟨_, _, _, f1, g1, rfl, k4, eB4, ?_⟩
        rw [nx]
        exact B1.none_ fun r h => by rw [h.2]; exact hf
      | some x0 =>
        rw [hf] at ea
        refine ⟨_, rfl, _, rfl, B, _, _, _, rfl, rfl, SqL.of eB4, atI_nat ea, rfl, _, rfl, ?_⟩
        refine iteT ?_
        have hRv : ((List.range n).map (adjT as))[a]? = some (adjT as a) := by rw [List.getElem?_map, List.getElem?_range ha]; rfl
        obtain ⟨xr, exr, ba, vs, rfl, eba, lvs⟩ := lR.2 a _ hRv
        refine ⟨_, rfl, _, rfl, R, rs, _, _, rfl, rfl, SqL.of (k4 _ _ eR), atI_nat exr, ba, rfl, ⟨_, SqL.of (k4 _ _ eba)⟩, ?_⟩
        refine for_it (walk_list (K := K) (a := ba) (xs := vs)) (fun m σ' H' => ∃ (x3 x4 : Option V) (f2 g2 : Nat → Option Nat), σ' = [some (.ref R), some (.ref B), some (nV a), x3, x4] ∧ Same H H' ∧ H' B = some (.lst (lsO n f2)) ∧ f2 a = some x0 ∧ Bd (fun r => (r ∈ as ∧ r.1 < a) ∨ (r.1 = a ∧ r.2 ∈ (adjT as a).take m)) f2 g2) ⟨x3, x4, f1, g1, rfl, k4, eB4, hf, B1.congr (fun r => by simp)⟩ ?_ ?_ ?_
        · rintro m σ' H' _ ⟨_, _, _, _, _, k, _⟩
          exact SqL.of (k _ _ eba)
        · rintro m y σ' H5 H6 hm ⟨x3, x4, f2, g2, rfl, k6, eB6, ff, B6⟩ ⟨rfl, hy⟩
          obtain ⟨r, hr2, c, rfl, ec⟩ := lvs.at hy
          have hmem : (a, r) ∈ as := adjT_mem.mp (List.mem_of_getElem? hr2)
          have hup := ra.up _ hmem
          have hup : a < r.1 ∧ r.1 < n := hup
          have hpr : ∀ r', ((r' ∈ as ∧ r'.1 < a) ∨ (r'.1 = a ∧ r'.2 ∈ (adjT as a).take m)) → r'.1 ≤ a := fun r' h => by
            rcases h with h | h <;> omega
          have hnx : (fun r' : Arc => (r' ∈ as ∧ r'.1 < a) ∨ (r'.1 = a ∧ r'.2 ∈ (adjT as a).take (m + 1))) = fun r' => ((r' ∈ as ∧ r'.1 < a) ∨ (r'.1 = a ∧ r'.2 ∈ (adjT as a).take m)) ∨ r' = (a, r.1, r.2) := by
            funext r'
            apply propext
            rw [show (adjT as a).take (m + 1) = (adjT as a).take m ++ [r] by rw [List.take_succ, hr2]; rfl, List.mem_append, List.mem_singleton]
            constructor
            · rintro (h | ⟨h1, h2 | h2⟩)
              · exact .inl (.inl h)
              · exact .inl (.inr ⟨h1, h2⟩)
              · exact .inr (by rw [← h1, ← h2])
            · rintro ((h | ⟨h1, h2⟩) | h)
              · exact .inl h
              · exact .inr ⟨h1, .inl h2⟩
              · exact .inr ⟨by rw [h], .inr (by rw [h])⟩
          have ea6 := lsO_at (f := f2) ha
          rw [ff] at ea6
          have eb6 := lsO_at (f := f2) hup.2
          refine ⟨c, _, rfl, SqT.of (k6 _ _ ec), rfl, _, _, rfl, _, _, rfl, rfl, ?_⟩
          have fin : (∀ y, f2 r.1 = some y → x0 + r.2 < y) → ∃ (x3 x4 : Option V) (f2' g2' : Nat → Option Nat), [some (V.ref R), some (.ref B), some (nV a), some (nV r.1), some (nV r.2)] = [some (V.ref R), some (.ref B), some (nV a), x3, x4] ∧ Same H (upd H6 B (.lst ((lsO n f2).set r.1 (V.int ((x0 : Int) + (r.2 : Int)))))) ∧ upd H6 B (.lst ((lsO n f2).set r.1 (V.int ((x0 : Int) + (r.2 : Int))))) B = some (.lst (lsO n f2')) ∧ f2' a = some x0 ∧ Bd (fun r' => (r' ∈ as ∧ r'.1 < a) ∨ (r'.1 = a ∧ r'.2 ∈ (adjT as a).take (m + 1))) f2' g2' := fun lo =>
            ⟨_, _, fset f2 r.1 (x0 + r.2), _, rfl, same_mut k6 nBH, by rw [upd_same]; exact congrArg (fun z => some (HO.lst z)) (lsO_set (b := r.1) (y := x0 + r.2) hup.2), by rw [fset_ne (by omega)]; exact ff, by rw [hnx]; exact B6.put hpr hup.1 ff lo⟩
          cases hh : f2 r.1 with
          | none =>
            rw [hh] at eb6
            refine ⟨_, rfl, _, rfl, B, _, _, _, rfl, rfl, SqL.of eB6, atI_nat eb6, rfl, _, rfl, ?_⟩
            refine iteT ?_
            refine iteT ?_
            refine ⟨_, rfl, _, rfl, B, _, _, _, rfl, rfl, SqL.of eB6, atI_nat ea6, _, rfl, _, _, rfl, rfl, _, rfl, _, rfl, B, _, _, _, rfl, rfl, eB6, ixN_nat (j := r.1) (by rw [lsO_len]; omega), ?_⟩
            exact fin fun y h => by rw [hh] at h; cases h
          | some y =>
            rw [hh] at eb6
            refine ⟨_, rfl, _, rfl, B, _, _, _, rfl, rfl, SqL.of eB6, atI_nat eb6, rfl, _, rfl, ?_⟩
            refine iteF ?_
            refine ⟨_, rfl, _, rfl, B, _, _, _, rfl, rfl, SqL.of eB6, atI_nat ea6, _, rfl, _, _, rfl, rfl, _, rfl, _, rfl, B, _, _, _, rfl, rfl, SqL.of eB6, atI_nat eb6, _, _, rfl, rfl, _, rfl, ?_⟩
            refine ifD (fun c1 => ?_) (fun c1 => ?_)
            · have c1 : (x0 : Int) + (r.2 : Int) < (y : Int) := c1
              refine ⟨_, rfl, _, rfl, B, _, _, _, rfl, rfl, SqL.of eB6, atI_nat ea6, _, rfl, _, _, rfl, rfl, _, rfl, _, rfl, B, _, _, _, rfl, rfl, eB6, ixN_nat (j := r.1) (by rw [lsO_len]; omega), ?_⟩
              exact fin fun y' h => by rw [hh] at h; have := Option.some.inj h; omega
            · have c1 : ¬ (x0 : Int) + (r.2 : Int) < (y : Int) := c1
              refine ⟨_, _, f2, g2, rfl, k6, eB6, ff, ?_⟩
              rw [hnx]
              exact B6.skip hpr hup.1 ff hh (by omega)
        · rintro σ' H5 ⟨x3, x4, f2, g2, rfl, k5, eB5, ff, B5⟩
          refine ⟨_, _, _, f2, g2, rfl, k5, eB5, ?_⟩
          rw [nx]
          refine B5.congr fun r => ?_
          rw [lvs.1, List.take_length, adjT_mem]
          constructor
          · rintro (h | ⟨h1, h2⟩)
            · exact .inl h
            · exact .inr ⟨h2, by rw [← h2]; exact h1⟩
          · rintro (h | ⟨h1, h2⟩)
            · exact .inl h
            · exact .inr ⟨by rw [← h1] at h2; exact h2, h1⟩
    · rintro σ' H4 ⟨x2, x3, x4, f1, g1, rfl, k4, eB4, B1⟩
      have B2 : Bd (· ∈ as) f1 g1 := B1.congr fun r => ⟨fun h => ⟨h, by have := ra.up r h; omega⟩, fun h => h.1⟩
      obtain ⟨rfl, rfl⟩ := bd_eq B2 bd fun a h => (ra.up a h).1
      exact ⟨_, rfl, q H4 B k4 eB4⟩
end
end Vf

set_option Elab.async false
set_option linter.all false
set_option maxRecDepth 100000
set_option maxHeartbeats 4000000
namespace Vf
open PySem PySem.Spec PyProof.Rows L2 TL LamX
theorem pw_len' {l : List (Nat × Nat)} {k : Nat → Nat} (hk : ∀ i, 1 ≤ k i) : l.length ≤ (l.map fun h => k h.1).sum := by
  induction l with
  | nil => exact Nat.le_refl _
  | cons a l ih =>
    have := hk a.1
    show l.length + 1 ≤ k a.1 + (l.map fun h => k h.1).sum
    omega
theorem rowI_wt' {M L : Nat} {S : Sty} {Z : List (List Nat)} {a n : Nat} : ∀ s, a + 1 + s ≤ n → ((rowI M L S Z a s).map fun h => 2 ^ (n - h.1)).sum + 2 ^ (n - (a + s)) ≤ 2 ^ (n - a)
  | 0, _ => by show 0 + _ ≤ _; rw [Nat.zero_add]; exact Nat.le_refl _
  | s + 1, h => by
    have ih := rowI_wt' (M := M) (L := L) (S := S) (Z := Z) (a := a) (n := n) s (by omega)
    have e2 : 2 ^ (n - (a + s)) = 2 * 2 ^ (n - (a + (s + 1))) := by
      rw [show n - (a + s) = (n - (a + (s + 1))) + 1 by omega, Nat.pow_succ]; omega
    rw [rowI_succ, List.map_append, List.sum_append]
    have e3 : ((((arcAt M L S Z a (a + 1 + s)).map (·.2)).toList).map fun h => 2 ^ (n - h.1)).sum ≤ 2 ^ (n - (a + (s + 1))) := by
      cases h : arcAt M L S Z a (a + 1 + s) with
      | none => exact Nat.zero_le _
      | some r =>
        have := (arcAt_is h).2
        show 2 ^ (n - r.2.1) + 0 ≤ _
        rw [this, show a + 1 + s = a + (s + 1) by omega]; omega
    omega
theorem net_wt' {M L : Nat} {S : Sty} {Z : List (List Nat)} {v : Nat} (hv : v < (posL S Z).length) : ((adjT (netQ M L S Z) v).map fun h => 2 ^ ((posL S Z).length - h.1)).sum < 2 ^ ((posL S Z).length - v) := by
  rw [← rowI_end hv]
  have := rowI_wt' (M := M) (L := L) (S := S) (Z := Z) (a := v) (n := (posL S Z).length) ((posL S Z).length - (v + 1)) (by omega)
  have h2 : 0 < 2 ^ ((posL S Z).length - (v + ((posL S Z).length - (v + 1)))) := Nat.two_pow_pos _
  omega
theorem last_cat' (xs : List V) (y : V) : (xs ++ [y])[(xs ++ [y]).length - 1]? = some y := by
  rw [List.length_append, show xs.length + [y].length - 1 = xs.length from rfl, List.getElem?_concat_length]
/-- what waits: a total and a node -/
def WtV (H : Hp) (b : Addr × Nat × Nat) : Prop := H b.1 = some (.tup [nV b.2.1, nV b.2.2])
def rfT (b : Addr × Nat × Nat) : V := .ref b.1
def wtT (n : Nat) (ws : List (Addr × Nat × Nat)) : Nat := (ws.map fun b => 2 ^ (n - b.2.2)).sum
theorem wtT_app (n : Nat) (a b : List (Addr × Nat × Nat)) : wtT n (a ++ b) = wtT n a + wtT n b := by
  unfold wtT
  rw [List.map_append, List.sum_append]
theorem wtT_len (n : Nat) : ∀ ws : List (Addr × Nat × Nat), ws.length ≤ wtT n ws
  | [] => Nat.zero_le _
  | b :: ws => by
    have := wtT_len n ws
    have := Nat.one_le_two_pow (n := n - b.2.2)
    show ws.length + 1 ≤ 2 ^ (n - b.2.2) + wtT n ws
    omega
def GoodT (n : Nat) (f : Nat → Option Nat) (c : Nat × Nat) : Prop := c.2 < n ∧ ∃ y, f c.2 = some y ∧ y ≤ c.1
section
variable {P : Program} {w : World} {K : PySem.W.Frag} {mg : Str → Option Value} {base : Heap}
def spTots : Sp := fun vs H Q _ => ∃ (R : Addr) (rs : List V) (n : Nat) (as : List Arc) (f g : Nat → Option Nat), vs = [.ref R, oN (f (n - 1))] ∧ H R = some (.lst rs) ∧ LV (AdjV H) rs ((List.range n).map (adjT as)) ∧ RowsA n as ∧ (∀ v, v < n → ((adjT as v).map fun h => 2 ^ (n - h.1)).sum < 2 ^ (n - v)) ∧ Bd (· ∈ as) f g ∧
  ∀ H' L (ts : List Nat), Same H H' → H' L = some (.lst (ts.map nV)) → (∀ t ∈ ts, ∃ y, f (n - 1) = some y ∧ y ≤ t) → ts.length ≤ 4096 → Q (.ref L) H'
theorem ok_tots (T : Txt K mg) : FnOk P w K mg base CX0 1 T.a_law_totals T.d_law_totals ["_law_rows", "_law_least"] spTots := by
  refine T.D_law_totals.F.ok sc_law_totals (fun vs H Q E h => ?_) (fun cdv A outer s H vs Q E hr h => ?_)
  · obtain ⟨_, _, _, _, _, _, rfl, _⟩ := h
    rfl
  · obtain ⟨R, rs, n, as, f, g, rfl, eR, lR, ra, hw, bd, q⟩ := h
    have n1 := ra.n1
    have n91 := ra.n91
    have up : ∀ a ∈ as, a.1 < a.2.1 := fun a h => (ra.up a h).1
    have lrn := lR.1
    rw [List.length_map, List.length_range] at lrn
    refine ⟨_, (pss_cons (ps_if (pt_cmpR op_gt (pe_callB call_len_seq (by rfl) T.n_len PySem.boot_len (pa_cons (pv 0) pa_nil)) pe_int (nomark _)) (pss_one (ps_ret (pe_ifExp (pt_cmpR op_isN (pv 1) pe_non (nomark _)) (pe_lst pa_nil) (pe_lst (pa_cons (pv 1) pa_nil))))) pss_nil)
      (pss_cons (ps_set (i := 2) sc_law_totals.nd rfl (.inl rfl) (pe_lst pa_nil))
      (pss_cons (ps_set (i := 3) sc_law_totals.nd rfl (.inl rfl) (pe_lst (pa_cons (pe_tup (pa_cons pe_int (pa_cons pe_int pa_nil))) pa_nil)))
      (pss_cons (ps_while PassesOwn.never (pt_truth (pv 3) (by intro _; rfl)) (pss_cons (ps_asg (pe_bm0 PySem.F.plainAttrs_list PySem.F.slot_list_pop PySem.F.type_list_pop mt_pop (pv 3)) (pg_tup (by rfl) (pgs_cons (pg_name (i := 4) sc_law_totals.nd rfl (.inl rfl)) (pgs_cons (pg_name (i := 5) sc_law_totals.nd rfl (.inl rfl)) pgs_nil))))
      (Evl.pss_cut (ps_if (pt_cmpR op_eq (pv 5) (pe_op op_sub (pe_callB call_len_seq (by rfl) T.n_len PySem.boot_len (pa_cons (pv 0) pa_nil)) pe_int) (nomark _)) (pss_one (ps_expr (pe_bm PySem.F.plainAttrs_list PySem.F.slot_list_append PySem.F.type_list_append mt_append (pv 2) (pa_cons (pv 4) pa_nil)))) pss_nil)
      (pss_one (ps_for PassesOwn.never rfl (pi_list (pe_ix ix_list (pv 0) (pv 5) (fun _ _ => rfl))) (pg_tup (by rfl) (pgs_cons (pg_name (i := 6) sc_law_totals.nd rfl (.inl rfl)) (pgs_cons (pg_name (i := 7) sc_law_totals.nd rfl (.inl rfl)) pgs_nil))) (pss_one (ps_expr (pe_bm PySem.F.plainAttrs_list PySem.F.slot_list_append PySem.F.type_list_append mt_append (pv 3) (pa_cons (pe_tup (pa_cons (pe_op op_add (pv 4) (pv 7)) (pa_cons (pv 6) pa_nil))) pa_nil)))))))))
      (pss_one (ps_ret (pv 2))))))), ?_⟩
    refine ⟨_, rfl, R, rs, rfl, .inl (SqL.of eR), _, _, rfl, rfl, _, rfl, ?_⟩
    refine ifD (fun c => ?_) (fun c => ?_)
    · cases hf : f (n - 1) with
      | none =>
        refine ⟨_, rfl, rfl, _, rfl, ?_⟩
        refine iteT ?_
        refine ⟨by show 0 ≤ sizeLine; decide, fun L nL => ?_⟩
        exact q _ L [] (same_upd (Same.refl H) nL) upd_same (fun _ h => nomatch h) (Nat.zero_le _)
      | some y =>
        refine ⟨_, rfl, rfl, _, rfl, ?_⟩
        refine iteF ?_
        refine ⟨_, rfl, by show 1 ≤ sizeLine; decide, fun L nL => ?_⟩
        exact q _ L [y] (same_upd (Same.refl H) nL) upd_same (fun t h => ⟨y, hf, by rw [List.mem_singleton.mp h]; exact Nat.le_refl _⟩) (by show 1 ≤ 4096; decide)
    have c : ¬ (12 : Int) < (rs.length : Int) := c
    have n12 : n ≤ 12 := by omega
    have pn : 2 ^ n ≤ 4096 := Nat.le_trans (Nat.pow_le_pow_right (by decide) n12) (by decide)
    refine ⟨by show 0 ≤ sizeLine; decide, fun F nF => ?_⟩
    have k1 := same_upd (o := .lst []) (Same.refl H) nF
    have eF : upd H F (.lst []) F = some (.lst []) := upd_same
    generalize upd H F (.lst []) = H1 at k1 eF
    refine ⟨by show 2 ≤ sizeLine; decide, fun t2 nt2 => ⟨by show 1 ≤ sizeLine; decide, fun W nW => ?_⟩⟩
    have k3 := same_upd (o := .tup [V.int 0, V.int 0]) (Same.refl H1) nt2
    have e3 : upd H1 t2 (.tup [V.int 0, V.int 0]) t2 = some (.tup [nV 0, nV 0]) := upd_same
    generalize upd H1 t2 (.tup [V.int 0, V.int 0]) = H3 at k3 e3 nW
    have k4 := same_upd (o := .lst [V.ref t2]) (Same.refl H3) nW
    have e4 : upd H3 W (.lst [V.ref t2]) W = some (.lst ([(t2, ((0 : Nat), (0 : Nat)))].map rfT)) := upd_same
    have nWH : H W = none := Same.free (k1.trans k3) nW
    have eF3 := k3 _ _ eF
    have nFW : F ≠ W := ne_of_none eF3 nW
    generalize upd H3 W (.lst [V.ref t2]) = H4 at k4 e4
    have K4 : Same H H4 := k1.trans (k3.trans k4)
    have w4 : WtV H4 (t2, ((0 : Nat), (0 : Nat))) := k4 _ _ e3
    refine ⟨fun m σ H' => ∃ (x4 x5 x6 x7 : Option V) (fs : List Nat) (ws : List (Addr × Nat × Nat)), m = wtT n ws ∧ σ = [some (.ref R), some (oN (f (n - 1))), some (.ref F), some (.ref W), x4, x5, x6, x7] ∧ Same H H' ∧ H' F = some (.lst (fs.map nV)) ∧ H' W = some (.lst (ws.map rfT)) ∧ (∀ y ∈ ws, WtV H' y) ∧ (∀ t ∈ fs, ∃ y, f (n - 1) = some y ∧ y ≤ t) ∧ (∀ y ∈ ws, GoodT n f y.2) ∧ fs.length + wtT n ws ≤ 2 ^ n,
      ⟨_, none, none, none, none, [], [(t2, (0, 0))], rfl, rfl, K4, k4 _ _ eF3, e4, (fun y hy => by rw [List.mem_singleton.mp hy]; exact w4), (fun _ h => nomatch h), (fun y hy => by rw [List.mem_singleton.mp hy]; exact ⟨by show 0 < n; omega, 0, bd.z.1, Nat.le_refl _⟩), by show 0 + (2 ^ (n - 0) + 0) ≤ 2 ^ n; rw [Nat.sub_zero]; omega⟩, fun m σ H5 hW => ?_⟩
    obtain ⟨x4, x5, x6, x7, fs, ws, rfl, rfl, k5, eF5, eW5, wW, gF, gW, hm⟩ := hW
    rcases List.eq_nil_or_concat ws with rfl | ⟨ws', b, rfl⟩
    · refine ⟨_, rfl, false, .inl ⟨_, SqL.of eW5, rfl⟩, ?_⟩
      exact ⟨_, rfl, q H5 F fs k5 eF5 gF (by omega)⟩
    · rw [List.concat_eq_append] at eW5 wW gW hm ⊢
      obtain ⟨hb1, hb2⟩ : WtV H5 b ∧ GoodT n f b.2 := ⟨wW b (List.mem_append_right _ List.mem_cons_self), gW b (List.mem_append_right _ List.mem_cons_self)⟩
      have wW' : ∀ y ∈ ws', WtV H5 y := fun y hy => wW y (List.mem_append_left _ hy)
      have gW' : ∀ y ∈ ws', GoodT n f y.2 := fun y hy => gW y (List.mem_append_left _ hy)
      have eW5' : H5 W = some (.lst (ws'.map rfT ++ [V.ref b.1])) := by rw [eW5, List.map_append]; rfl
      have hwl := wtT_len n (ws' ++ [b])
      rw [List.length_append] at hwl
      have hsp : wtT n (ws' ++ [b]) = wtT n ws' + (2 ^ (n - b.2.2) + 0) := wtT_app n ws' [b]
      have hw5 : ws'.length ≤ 4096 := by
        have : [b].length = 1 := rfl
        omega
      obtain ⟨pb, tb, v⟩ := b
      have eb1 : H5 pb = some (.tup [nV tb, nV v]) := hb1
      obtain ⟨hv, yv, hfv, hle⟩ := hb2
      have hv : v < n := hv
      have hfv : f v = some yv := hfv
      have hle : yv ≤ tb := hle
      have hpw : 2 ^ (n - v) ≤ 4096 := Nat.le_trans (Nat.pow_le_pow_right (by decide) (by omega)) (show 2 ^ 12 ≤ 4096 by decide)
      have hsp : wtT n (ws' ++ [(pb, tb, v)]) = wtT n ws' + (2 ^ (n - v) + 0) := hsp
      refine ⟨_, rfl, true, .inl ⟨_, SqL.of eW5', by simp⟩, ?_⟩
      refine ⟨fun σ' H' => ∃ (x4 x5 x6 x7 : Option V) (fs : List Nat) (ws : List (Addr × Nat × Nat)), wtT n ws < wtT n (ws' ++ [(pb, tb, v)]) ∧ σ' = [some (.ref R), some (oN (f (n - 1))), some (.ref F), some (.ref W), x4, x5, x6, x7] ∧ Same H H' ∧ H' F = some (.lst (fs.map nV)) ∧ H' W = some (.lst (ws.map rfT)) ∧ (∀ y ∈ ws, WtV H' y) ∧ (∀ t ∈ fs, ∃ y, f (n - 1) = some y ∧ y ≤ t) ∧ (∀ y ∈ ws, GoodT n f y.2) ∧ fs.length + wtT n ws ≤ 2 ^ n, fun σ' H' hN => ?_, ?_⟩
      · obtain ⟨x4, x5, x6, x7, fs, ws, h1, h2, rest⟩ := hN
        exact ⟨_, h1, x4, x5, x6, x7, fs, ws, rfl, h2, rest⟩
      refine ⟨.ref W, rfl, .inl ⟨rfl, _, SqL.of eW5'⟩, W, _, _, rfl, rfl, eW5', last_cat' _ _, ?_⟩
      rw [List.dropLast_concat]
      have kt6 := kt_mut (zs := ws'.map rfT) eW5'
      have k6 : Same H (upd H5 W (.lst (ws'.map rfT))) := same_mut k5 nWH
      have eW6 : upd H5 W (.lst (ws'.map rfT)) W = some (.lst (ws'.map rfT)) := upd_same
      have eF6 : upd H5 W (.lst (ws'.map rfT)) F = some (.lst (fs.map nV)) := by rw [upd_ne nFW]; exact eF5
      generalize upd H5 W (.lst (ws'.map rfT)) = H6 at kt6 k6 eW6 eF6
      have eb1 := kt6 _ _ eb1
      have wW6 : ∀ y ∈ ws', WtV H6 y := fun y hy => kt6 _ _ (wW' y hy)
      refine ⟨pb, _, rfl, SqT.of eb1, rfl, _, _, rfl, _, _, rfl, rfl, ?_⟩
      refine ⟨fun σ' H' => ∃ (fs' : List Nat), σ' = [some (.ref R), some (oN (f (n - 1))), some (.ref F), some (.ref W), some (nV tb), some (nV v), x6, x7] ∧ Same H H' ∧ H' F = some (.lst (fs'.map nV)) ∧ H' W = some (.lst (ws'.map rfT)) ∧ (∀ y ∈ ws', WtV H' y) ∧ (∀ t ∈ fs', ∃ y, f (n - 1) = some y ∧ y ≤ t) ∧ fs'.length ≤ fs.length + 1, ?_, ?_⟩
      · refine ⟨_, rfl, _, rfl, R, rs, rfl, .inl (SqL.of (k6 _ _ eR)), _, _, rfl, rfl, rfl, _, rfl, ?_⟩
        refine ifD (fun c => ?_) (fun c => ?_)
        · have c : v = n - 1 := by
            have c : V.int (v : Int) = V.int ((rs.length : Int) - 1) := c
            have := V.int.inj c
            omega
          refine ⟨.ref F, rfl, .inl ⟨rfl, _, .inl (.inl eF6)⟩, _, rfl, ?_⟩
          have kt7 := kt_mut (zs := fs.map nV ++ [nV tb]) eF6
          refine ⟨F, fs.map nV, _, rfl, rfl, eF6, szN (by rw [List.length_map]; omega), fs ++ [tb], rfl, same_mut k6 nF, by rw [upd_same, List.map_append]; rfl, by rw [upd_ne (Ne.symm nFW)]; exact eW6, fun y hy => kt7 _ _ (wW6 y hy), fun t ht => ?_, by rw [List.length_append]; exact Nat.le_refl _⟩
          rcases List.mem_append.mp ht with h | h
          · exact gF t h
          · rw [List.mem_singleton.mp h, ← c]; exact ⟨yv, hfv, hle⟩
        · exact ⟨fs, rfl, k6, eF6, eW6, wW6, gF, Nat.le_succ _⟩
      · rintro σ' H7 ⟨fs', rfl, k7, eF7, eW7, wW7, gF7, lF7⟩
        have hRv : ((List.range n).map (adjT as))[v]? = some (adjT as v) := by rw [List.getElem?_map, List.getElem?_range hv]; rfl
        obtain ⟨xr, exr, ba, vs, rfl, eba, lvs⟩ := lR.2 v _ hRv
        have eba7 := k7 _ _ eba
        have hwv := hw v hv
        have hal := pw_len' (l := adjT as v) (k := fun i => 2 ^ (n - i)) fun i => Nat.one_le_two_pow
        have hal : (adjT as v).length ≤ ((adjT as v).map fun h => 2 ^ (n - h.1)).sum := hal
        refine ⟨_, rfl, _, rfl, R, rs, _, _, rfl, rfl, SqL.of (k7 _ _ eR), atI_nat exr, ba, rfl, ⟨_, SqL.of eba7⟩, ?_⟩
        refine for_it (walk_list (K := K) (a := ba) (xs := vs)) (fun t σ' H' => ∃ (x6 x7 : Option V) (nw : List (Addr × Nat × Nat)), σ' = [some (.ref R), some (oN (f (n - 1))), some (.ref F), some (.ref W), some (nV tb), some (nV v), x6, x7] ∧ Same H H' ∧ (∀ a xs, H7 a = some (.tup xs) → H' a = some (.tup xs)) ∧ H' F = some (.lst (fs'.map nV)) ∧ H' W = some (.lst ((ws' ++ nw).map rfT)) ∧ (∀ y ∈ nw, WtV H' y) ∧ nw.map (·.2) = ((adjT as v).take t).map fun h => (tb + h.2, h.1)) ⟨x6, x7, [], rfl, k7, fun _ _ e => e, eF7, by rw [List.append_nil]; exact eW7, (fun _ h => nomatch h), rfl⟩ ?_ ?_ ?_
        · rintro t σ1 H' _ ⟨_, _, _, _, k, _⟩
          exact SqL.of (k _ _ eba)
        · rintro t x σ1 H0 H8 ht ⟨x6, x7, nw, rfl, k8, kt8, eF8, eW8, wN8, hn8⟩ ⟨rfl, hx⟩
          obtain ⟨h, eh, bh, rfl, ebh⟩ := lvs.at hx
          have hta : t < (adjT as v).length := (List.getElem?_eq_some_iff.mp eh).1
          have hnl : nw.length = t := by
            have := congrArg List.length hn8
            rw [List.length_map, List.length_map, List.length_take] at this
            omega
          refine ⟨bh, _, rfl, SqT.of (k8 _ _ ebh), rfl, _, _, rfl, _, _, rfl, rfl, ?_⟩
          refine ⟨.ref W, rfl, .inl ⟨rfl, _, .inl (.inl eW8)⟩, _, rfl, _, rfl, _, _, rfl, rfl, _, rfl, by show 2 ≤ sizeLine; decide, fun p2 np2 => ?_⟩
          have k11 := same_upd (o := .tup [V.int ((tb : Int) + (h.2 : Int)), nV h.1]) (Same.refl H8) np2
          have ep2 : upd H8 p2 (.tup [V.int ((tb : Int) + (h.2 : Int)), nV h.1]) p2 = some (.tup [nV (tb + h.2), nV h.1]) := upd_same
          have eW11 := k11 _ _ eW8
          have kt := kt_mut (zs := (ws' ++ nw).map rfT ++ [V.ref p2]) eW11
          have kt12 : ∀ a xs, H8 a = some (.tup xs) → upd (upd H8 p2 (.tup [V.int ((tb : Int) + (h.2 : Int)), nV h.1])) W (.lst ((ws' ++ nw).map rfT ++ [V.ref p2])) a = some (.tup xs) := fun a xs e => kt _ _ (k11 _ _ e)
          refine ⟨W, (ws' ++ nw).map rfT, _, rfl, rfl, eW11, szN (by rw [List.length_map, List.length_append]; omega), _, _, nw ++ [(p2, tb + h.2, h.1)], rfl, same_mut (k8.trans k11) nWH, fun a xs e => kt12 _ _ (kt8 _ _ e), by rw [upd_ne nFW]; exact k11 _ _ eF8, by rw [upd_same, ← List.append_assoc, List.map_append (l₁ := ws' ++ nw)]; rfl, fun y hy => ?_, ?_⟩
          · rcases List.mem_append.mp hy with h | h
            · exact kt12 _ _ (wN8 y h)
            · rw [List.mem_singleton.mp h]; exact kt _ _ ep2
          · rw [List.map_append, hn8, show (adjT as v).take (t + 1) = (adjT as v).take t ++ [h] by rw [List.take_succ, eh]; rfl, List.map_append]; rfl
        · rintro σ1 H8 ⟨x6, x7, nw, rfl, k8, kt8, eF8, eW8, wN8, hn8⟩
          rw [lvs.1, List.take_length] at hn8
          have hnm : ∀ y ∈ nw, ∃ h ∈ adjT as v, y.2 = (tb + h.2, h.1) := fun y hy => by
            have : y.2 ∈ nw.map (·.2) := List.mem_map.mpr ⟨y, hy, rfl⟩
            rw [hn8] at this
            obtain ⟨h, h1, h2⟩ := List.mem_map.mp this
            exact ⟨h, h1, h2.symm⟩
          have hnw : wtT n nw = ((adjT as v).map fun h => 2 ^ (n - h.1)).sum := by
            have e1 : wtT n nw = ((nw.map (·.2)).map fun c => 2 ^ (n - c.2)).sum := by unfold wtT; rw [List.map_map]; rfl
            rw [e1, hn8, List.map_map]; rfl
          have hlt : wtT n (ws' ++ nw) + 1 ≤ wtT n (ws' ++ [(pb, tb, v)]) := by
            rw [wtT_app, hnw, hsp]
            omega
          refine ⟨_, _, _, _, fs', ws' ++ nw, by omega, rfl, k8, eF8, eW8, fun y hy => ?_, gF7, fun y hy => ?_, by omega⟩
          · rcases List.mem_append.mp hy with h | h
            · exact kt8 _ _ (wW7 y h)
            · exact wN8 y h
          · rcases List.mem_append.mp hy with h | h
            · exact gW' y h
            · obtain ⟨h, h1, h2⟩ := hnm y h
              have ha : (v, h.1, h.2) ∈ as := adjT_mem.mp h1
              have hup := ra.up _ ha
              obtain ⟨y1, e1, l1⟩ := bd.le (u := v) (v := h.1) (c := h.2) ha hfv
              rw [h2]
              exact ⟨hup.2, y1, e1, by show y1 ≤ tb + h.2; omega⟩
end
end Vf

set_option Elab.async false
set_option linter.all false
set_option maxRecDepth 100000
set_option maxHeartbeats 4000000
namespace Vf
open PySem PySem.Spec PyProof.Rows L2 TL LamX
/-! ### tests of and/or told as propositions -/
theorem and_one {a b : TT} {σ : L2.St} {H : Hp} {p q : Prop} [Decidable p] [Decidable q] (ha : ∀ R : Bool → Hp → Prop, R (decide p) H → a σ H R) (hb : ∀ R : Bool → Hp → Prop, R (decide q) H → b σ H R) : ∀ R : Bool → Hp → Prop, R (decide (p ∧ q)) H → tAnd a b σ H R := fun R h => by
  refine ha _ ?_
  by_cases c : p
  · rw [decide_eq_true c]
    refine hb _ ?_
    rw [show decide q = decide (p ∧ q) from decide_eq_decide.mpr ⟨fun z => ⟨c, z⟩, fun z => z.2⟩]
    exact h
  · rw [decide_eq_false c]
    rw [decide_eq_false fun z : p ∧ q => c z.1] at h
    exact h
theorem or_one {a b : TT} {σ : L2.St} {H : Hp} {p q : Prop} [Decidable p] [Decidable q] (ha : ∀ R : Bool → Hp → Prop, R (decide p) H → a σ H R) (hb : ¬ p → ∀ R : Bool → Hp → Prop, R (decide q) H → b σ H R) : ∀ R : Bool → Hp → Prop, R (decide (p ∨ q)) H → tOr a b σ H R := fun R h => by
  refine ha _ ?_
  by_cases c : p
  · rw [decide_eq_true c]
    rw [decide_eq_true (show p ∨ q from .inl c)] at h
    exact h
  · rw [decide_eq_false c]
    refine hb c _ ?_
    rw [show decide q = decide (p ∨ q) from decide_eq_decide.mpr ⟨fun z => .inr z, fun z => z.resolve_left c⟩]
    exact h
theorem ifs_of {c : TT} {s t : TS} {D : Ends} {σ : L2.St} {H : Hp} {p : Prop} [Decidable p] (hc : ∀ R : Bool → Hp → Prop, R (decide p) H → c σ H R) (h1 : p → s D σ H) (h2 : ¬ p → t D σ H) : tIfS c s t D σ H := by
  refine hc _ ?_
  by_cases h : p
  · rw [decide_eq_true h]; exact h1 h
  · rw [decide_eq_false h]; exact h2 h
theorem ifs_mid {c : TT} {s t : TS} {D : Ends} {σ : L2.St} {H : Hp} {p : Prop} [Decidable p] (Mid : L2.St → Hp → Prop) (hc : ∀ R : Bool → Hp → Prop, R (decide p) H → c σ H R) (h1 : p → (∀ σ' H', Mid σ' H' → D.nx σ' H') → s D σ H) (h2 : ¬ p → (∀ σ' H', Mid σ' H' → D.nx σ' H') → t D σ H) (h : ∀ σ' H', Mid σ' H' → D.nx σ' H') : tIfS c s t D σ H :=
  ifs_of hc (fun z => h1 z h) (fun z => h2 z h)
theorem ifs_orH {a b : TT} {s t : TS} {D : Ends} {σ : L2.St} {H : Hp} (ha : ∀ R : Bool → Hp → Prop, R false H → a σ H R) (hb : ∀ R : Bool → Hp → Prop, (∀ H', Same H H' → R false H') → b σ H R) (h : ∀ H', Same H H' → t D σ H') : tIfS (tOr a b) s t D σ H :=
  ha _ (hb _ h)
theorem if_one {c : TT} {a b : TE} {σ : L2.St} {H : Hp} {Q : VK} {p : Prop} [Decidable p] {x : V} (hc : ∀ R : Bool → Hp → Prop, R (decide p) H → c σ H R) (ha : p → ∀ R : VK, R x H → a σ H R) (hb : ¬ p → ∀ R : VK, R x H → b σ H R) (q : Q x H) : tIf c a b σ H Q := by
  refine hc _ ?_
  by_cases h : p
  · rw [decide_eq_true h]
    exact ha h _ q
  · rw [decide_eq_false h]
    exact hb h _ q
theorem not_dec' {p : Prop} [Decidable p] (h : p) : (!decide p) = false := by rw [decide_eq_true h]; rfl
end Vf

set_option Elab.async false
set_option linter.all false
set_option maxRecDepth 100000
set_option maxHeartbeats 4000000
namespace Vf
open PySem PySem.Spec PyProof.Rows L2 TL LamX
theorem oV_iff {a b : Option Int} : oV a = oV b ↔ a = b := by
  constructor
  · intro h
    cases a <;> cases b
    · rfl
    · cases h
    · cases h
    · exact congrArg some (V.int.inj h)
  · intro h; rw [h]
theorem oV_non {a : Option Int} : oV a = V.non ↔ a = none := by
  cases a
  · exact ⟨fun _ => rfl, fun _ => rfl⟩
  · exact ⟨fun h => (by cases h), fun h => (by cases h)⟩
theorem judge_all {n : Nat} {as : List Arc} {t : Option Int} {ps : List (Option Int)} (h1 : ps.length = n) (h2 : pg ps 0 = some 0) (h3 : pg ps (n - 1) = t) (h4 : ∀ r ∈ as, arcBad ps r = false) : paperOk n as t ps = true := judge_good h1 h2 h3 fun _ a e => h4 a (List.mem_of_getElem? e)
theorem judge_one {n : Nat} {as : List Arc} {t : Option Int} {ps : List (Option Int)} {r : Arc} (hr : r ∈ as) (h : arcBad ps r = true) : paperOk n as t ps = false := by
  obtain ⟨j, hj, e⟩ := List.mem_iff_getElem.mp hr
  exact judge_arc (j := j) (a := r) (by rw [List.getElem?_eq_getElem hj, e]) h
section
variable {P : Program} {w : World} {K : PySem.W.Frag} {mg : Str → Option Value} {base : Heap}
def spIsP : Sp := fun vs H Q _ => ∃ (R p : Addr) (rs : List V) (n : Nat) (as : List Arc) (t : Option Int) (ps : List (Option Int)), vs = [.ref R, oV t, .ref p] ∧ H R = some (.lst rs) ∧ LV (AdjV H) rs ((List.range n).map (adjT as)) ∧ RowsA n as ∧ H p = some (.tup (ps.map oV)) ∧ ps.length ≤ 200 ∧ Q (.bl (paperOk n as t ps)) H
theorem ok_isp (T : Txt K mg) : FnOk P w K mg base CX0 1 T.a_law_is_paper T.d_law_is_paper ["_law_rows", "_law_total", "_law_paper"] spIsP := by
  refine T.D_law_is_paper.F.ok sc_law_is_paper (fun vs H Q E h => ?_) (fun cdv A outer s H vs Q E hr h => ?_)
  · obtain ⟨_, _, _, _, _, _, _, rfl, _⟩ := h
    rfl
  · obtain ⟨R, p, rs, n, as, t, ps, rfl, eR, lR, ra, ep, lp, q⟩ := h
    have n1 := ra.n1
    have n91 := ra.n91
    have lrn := lR.1
    rw [List.length_map, List.length_range] at lrn
    have lpm : (ps.map oV).length = ps.length := List.length_map _
    refine ⟨_, (pss_cons (ps_if (PW.pt (pw_or (pt_cmpR op_ne (pe_callB call_len_seq (by rfl) T.n_len PySem.boot_len (pa_cons (pv 2) pa_nil)) (pe_callB call_len_seq (by rfl) T.n_len PySem.boot_len (pa_cons (pv 0) pa_nil)) (nomark _)) (pw_or (pt_cmpR op_isN (pe_ix ix_tup (pv 2) pe_int (fun _ _ => rfl)) pe_non (nomark _)) (pw_or (pt_cmpR op_ne (pe_ix ix_tup (pv 2) pe_int (fun _ _ => rfl)) pe_int (nomark _)) (pw_or1 (pt_cmpR op_ne (pe_ix ix_tup (pv 2) (pe_op op_sub (pe_callB call_len_seq (by rfl) T.n_len PySem.boot_len (pa_cons (pv 0) pa_nil)) pe_int) (fun _ _ => rfl)) (pv 1) (nomark _))))))) (pss_one (ps_ret pe_bl)) pss_nil)
      (pss_cons (ps_for PassesOwn.never rfl (pi_range1 (by rfl) T.n_range (pa_cons (pe_callB call_len_seq (by rfl) T.n_len PySem.boot_len (pa_cons (pv 0) pa_nil)) pa_nil)) (pg_name (i := 3) sc_law_is_paper.nd rfl (.inl rfl)) (pss_one (ps_for PassesOwn.never rfl (pi_list (pe_ix ix_list (pv 0) (pv 3) (fun _ _ => rfl))) (pg_tup (by rfl) (pgs_cons (pg_name (i := 4) sc_law_is_paper.nd rfl (.inl rfl)) (pgs_cons (pg_name (i := 5) sc_law_is_paper.nd rfl (.inl rfl)) pgs_nil))) (pss_one (ps_if (PW.pt (pw_and (pt_cmpR op_notN (pe_ix ix_tup (pv 2) (pv 3) (fun _ _ => rfl)) pe_non (nomark _)) (pw_and1 (PW.pt (pw_or (pt_cmpR op_isN (pe_ix ix_tup (pv 2) (pv 4) (fun _ _ => rfl)) pe_non (nomark _)) (pw_or1 (pt_cmpR op_gt (pe_ix ix_tup (pv 2) (pv 4) (fun _ _ => rfl)) (pe_op op_add (pe_ix ix_tup (pv 2) (pv 3) (fun _ _ => rfl)) (pv 5)) (nomark _)))))))) (pss_one (ps_ret pe_bl)) pss_nil)))))
      (pss_one (ps_ret pe_bl)))), ?_⟩
    have or_h : ∀ {a b : TT} {σ : L2.St} {p1 q1 : Prop} [Decidable p1] [Decidable q1] (ha : ∀ R : Bool → Hp → Prop, R (decide p1) H → a σ H R) (hb : ¬ p1 → ∀ R : Bool → Hp → Prop, R (decide q1) H → b σ H R), ∀ R : Bool → Hp → Prop, R (decide (p1 ∨ q1)) H → tOr a b σ H R := fun ha hb => or_one ha hb
    dsimp only [tSeq]
    refine ifs_of (p := ¬ ps.length = n ∨ (pg ps 0 = none ∨ (¬ pg ps 0 = some 0 ∨ ¬ pg ps (n - 1) = t))) (or_one (fun R' h => ⟨_, rfl, p, _, rfl, .inr (SqT.of ep), _, rfl, R, rs, rfl, .inl (SqL.of eR), rfl, _, congrArg V.bl ?_, h⟩) (fun c1 => or_one (fun R' h => ⟨_, rfl, p, _, 0, _, rfl, rfl, SqT.of ep, atI_nat (j := 0) (pg_at (i := 0) (by omega)), rfl, _, congrArg V.bl (decide_eq_decide.mpr oV_non), h⟩) (fun c2 => or_one (fun R' h => ⟨_, rfl, p, _, 0, _, rfl, rfl, SqT.of ep, atI_nat (j := 0) (pg_at (i := 0) (by omega)), scal_o _ (some 0), _, congrArg V.bl ?_, h⟩) (fun c3 R' h => ⟨_, rfl, _, rfl, R, rs, rfl, .inl (SqL.of eR), _, _, rfl, rfl, p, _, ((n - 1 : Nat) : Int), _, rfl, congrArg V.int ?_, SqT.of ep, atI_nat (j := n - 1) (pg_at (i := n - 1) (by omega)), _, rfl, scal_o _ _, _, congrArg V.bl ?_, h⟩)))) (fun c => ?_) (fun c => ?_)
    · rw [← decide_not]
      exact decide_eq_decide.mpr (not_congr ⟨fun h => by have h := V.int.inj h; omega, fun h => congrArg V.int (by omega)⟩)
    · rw [← decide_not]
      exact decide_eq_decide.mpr (not_congr (oV_iff (b := some 0)))
    · omega
    · rw [← decide_not]
      exact decide_eq_decide.mpr (not_congr oV_iff)
    · have e : paperOk n as t ps = false := judge_bad fun ⟨h1, h2, h3⟩ => by
        rcases c with c | c | c | c
        · exact c h1
        · rw [c] at h2; cases h2
        · exact c h2
        · exact c h3
      rw [e] at q
      exact q
    · have c1 : ps.length = n := Decidable.byContradiction fun z => c (.inl z)
      have c2 : pg ps 0 = some 0 := Decidable.byContradiction fun z => c (.inr (.inr (.inl z)))
      have c3 : pg ps (n - 1) = t := Decidable.byContradiction fun z => c (.inr (.inr (.inr z)))
      refine ⟨_, rfl, R, rs, rfl, .inl (SqL.of eR), (rs.length : Int), rfl, by omega, by omega, ?_⟩
      rw [Int.toNat_natCast, lrn]
      refine for_it walk_range (fun a σ' H' => H' = H ∧ ∃ (x3 x4 x5 : Option V), σ' = [some (.ref R), some (oV t), some (.ref p), x3, x4, x5] ∧ ∀ r ∈ as, r.1 < a → arcBad ps r = false) ⟨rfl, none, none, none, rfl, fun _ _ h => absurd h (Nat.not_lt_zero _)⟩ (fun _ _ _ _ _ => trivial) ?_ ?_
      · rintro a x σ' H0 H4 ha ⟨rfl, x3, x4, x5, rfl, hb⟩ ⟨rfl, hx⟩
        have hx : x = nV a := by rw [hx]; exact int0 a
        subst hx
        have hRv : ((List.range n).map (adjT as))[a]? = some (adjT as a) := by rw [List.getElem?_map, List.getElem?_range ha]; rfl
        obtain ⟨xr, exr, ba, vs, rfl, eba, lvs⟩ := lR.2 a _ hRv
        refine ⟨_, rfl, _, rfl, R, rs, _, _, rfl, rfl, SqL.of eR, atI_nat exr, ba, rfl, ⟨_, SqL.of eba⟩, ?_⟩
        refine for_it (walk_list (K := K) (a := ba) (xs := vs)) (fun m σ' H' => H' = H4 ∧ ∃ (x4 x5 : Option V), σ' = [some (.ref R), some (oV t), some (.ref p), some (nV a), x4, x5] ∧ ∀ r ∈ (adjT as a).take m, arcBad ps (a, r) = false) ⟨rfl, x4, x5, rfl, fun _ h => by simp at h⟩ ?_ ?_ ?_
        · rintro m σ' H' _ ⟨rfl, _⟩
          exact SqL.of eba
        · rintro m y σ' H5 H6 hm ⟨rfl, x4, x5, rfl, hb2⟩ ⟨rfl, hy⟩
          obtain ⟨r, hr2, bc, rfl, ec⟩ := lvs.at hy
          have hmem : (a, r) ∈ as := adjT_mem.mp (List.mem_of_getElem? hr2)
          have hup := ra.up _ hmem
          have hup : a < r.1 ∧ r.1 < n := hup
          have ga := pg_at (ps := ps) (i := a) (by omega)
          have gb := pg_at (ps := ps) (i := r.1) (by omega)
          have bad : arcBad ps (a, r) = true → Q (.bl false) H6 := fun h => by
            rw [judge_one hmem h] at q; exact q
          have good : arcBad ps (a, r) = false → ∀ r' ∈ (adjT as a).take (m + 1), arcBad ps (a, r') = false := fun h r' hr' => by
            rw [show (adjT as a).take (m + 1) = (adjT as a).take m ++ [r] by rw [List.take_succ, hr2]; rfl] at hr'
            rcases List.mem_append.mp hr' with h1 | h1
            · exact hb2 _ h1
            · rw [List.mem_singleton.mp h1]; exact h
          have ae : arcBad ps (a, r) = match pg ps a with | none => false | some x => match pg ps r.1 with | none => true | some y => decide (x + (r.2 : Int) < y) := rfl
          refine ⟨bc, _, rfl, SqT.of ec, rfl, _, _, rfl, _, _, rfl, rfl, ?_⟩
          cases h1 : pg ps a with
          | none =>
            rw [h1] at ga ae
            refine ⟨_, rfl, _, rfl, p, _, _, _, rfl, rfl, SqT.of ep, atI_nat ga, rfl, _, rfl, ?_⟩
            exact ⟨rfl, _, _, rfl, good ae⟩
          | some x =>
            rw [h1] at ga ae
            refine ⟨_, rfl, _, rfl, p, _, _, _, rfl, rfl, SqT.of ep, atI_nat ga, rfl, _, rfl, ?_⟩
            refine iteT ?_
            cases h2 : pg ps r.1 with
            | none =>
              rw [h2] at gb ae
              refine ⟨_, rfl, _, rfl, p, _, _, _, rfl, rfl, SqT.of ep, atI_nat gb, rfl, _, rfl, ?_⟩
              exact bad ae
            | some y =>
              rw [h2] at gb ae
              refine ⟨_, rfl, _, rfl, p, _, _, _, rfl, rfl, SqT.of ep, atI_nat gb, rfl, _, rfl, ?_⟩
              refine iteF ?_
              refine ⟨_, rfl, _, rfl, p, _, _, _, rfl, rfl, SqT.of ep, atI_nat gb, _, rfl, _, rfl, p, _, _, _, rfl, rfl, SqT.of ep, atI_nat ga, _, rfl, _, _, rfl, rfl, _, _, rfl, rfl, _, rfl, ?_⟩
              refine ifD (fun c => ?_) (fun c => ?_)
              · exact bad (ae.trans (decide_eq_true c))
              · exact ⟨rfl, _, _, rfl, good (ae.trans (decide_eq_false c))⟩
        · rintro σ' H5 ⟨rfl, x4, x5, rfl, hb2⟩
          refine ⟨rfl, _, _, _, rfl, fun r hr h => ?_⟩
          by_cases c : r.1 < a
          · exact hb r hr c
          · rw [lvs.1, List.take_length] at hb2
            have e : r = (a, r.2) := Prod.ext (by show r.1 = a; omega) rfl
            rw [e] at hr ⊢
            exact hb2 _ (adjT_mem.mpr hr)
      · rintro σ' H4 ⟨rfl, x3, x4, x5, rfl, hb⟩
        rw [judge_all c1 c2 c3 fun r hr => hb r hr (by have := ra.up r hr; omega)] at q
        exact q
def spShut : Sp := fun vs H Q _ => ∃ (L : Addr) (t : Option Int) (ts : List Nat), vs = [oV t, .ref L] ∧ H L = some (.lst (ts.map nV)) ∧ ts.length ≤ 4096 ∧ (∀ z ∈ ts, ∃ x : Int, t = some x ∧ x ≤ z) ∧ ∀ H', Same H H' → Q (.bl true) H'
theorem ok_shut (T : Txt K mg) : FnOk P w K mg base CX0 1 T.a_law_shut_out T.d_law_shut_out ["_law_claim", "_law_totals_here"] spShut := by
  refine T.D_law_shut_out.F.ok sc_law_shut_out (fun vs H Q E h => ?_) (fun cdv A outer s H vs Q E hr h => ?_)
  · obtain ⟨_, _, _, rfl, _⟩ := h
    rfl
  · obtain ⟨L, t, ts, rfl, eL, lt, hz, q⟩ := h
    refine ⟨_, (pss_cons (ps_if (pt_cmpR op_isN (pv 0) pe_non (nomark _)) (pss_one (ps_ret (pe_notT (pv 1)))) pss_nil)
      (pss_one (ps_ret (pe_callB (cr_all (by rfl)) (by rfl) T.n_all (by decide +kernel) (pa_cons (pe_lc (own := [("_law_total", 2)]) (g := gName 2) (tt := tYes) rfl sc_law_shut_out.nd (pi_list (pv 1)) (blkOk_by (own := [("_law_total", 2)]) (N := ["_law_claim", "_law_totals_here", "_law_total"]) (sc := (defScope s_law_shut_out)) (by decide +kernel)) (fun _ _ _ _ _ => (pg_name (i := 2) sc_law_shut_out.nd rfl (.inl rfl))) (fun _ _ _ _ _ => pts_nil) (fun _ _ _ _ _ => (pe_cmpR op_le (pv 0) (pv 2) (nomark _)))) pa_nil))))), ?_⟩
    cases t with
    | none =>
      have e : ts = [] := by
        cases ts with
        | nil => rfl
        | cons z _ => obtain ⟨x, h, _⟩ := hz z List.mem_cons_self; cases h
      subst e
      refine ⟨_, rfl, rfl, _, rfl, ?_⟩
      refine iteT ?_
      exact ⟨_, rfl, false, .inl ⟨_, SqL.of eL, rfl⟩, q H (Same.refl H)⟩
    | some x =>
      refine ⟨_, rfl, rfl, _, rfl, ?_⟩
      refine iteF ?_
      refine ⟨_, rfl, L, rfl, ⟨_, SqL.of eL⟩, fun D nD => ?_⟩
      refine lc_it (walk_list (K := K) (a := L) (xs := ts.map nV)) (fun m H' => Same H H' ∧ H' D = some (.lst ((List.replicate m true).map V.bl))) ⟨same_upd (Same.refl H) nD, upd_same⟩ ?_ ?_ ?_
      · rintro i H' _ ⟨k, _⟩
        exact SqL.of (k _ _ eL)
      · rintro m y Ha H2 hm ⟨k2, eD⟩ ⟨rfl, hy⟩
        rw [List.length_map] at hm
        rw [List.getElem?_map, List.getElem?_eq_getElem hm] at hy
        have hy : nV ts[m] = y := Option.some.inj hy
        subst hy
        obtain ⟨x', hx', lx⟩ := hz _ (List.getElem_mem hm)
        have hx' := Option.some.inj hx'
        subst hx'
        refine ⟨by kernel_rfl, V.int x, by kernel_rfl, nV ts[m], by kernel_rfl, _, _, rfl, rfl, _, eD, by rw [List.length_map, List.length_replicate]; exact szN (by omega), same_mut k2 nD, ?_⟩
        rw [upd_same, List.replicate_succ', List.map_append]
        exact congrArg (fun z => some (HO.lst (_ ++ [z]))) (congrArg V.bl (decide_eq_true lx))
      · rintro H2 ⟨k2, eD⟩
        refine ⟨D, _, rfl, SqL.of eD, ?_⟩
        rw [show (List.replicate (ts.map nV).length true).all id = true from List.all_eq_true.mpr fun x hx => by rw [List.eq_of_mem_replicate hx]; rfl]
        exact q H2 k2
end
end Vf

set_option Elab.async false
set_option linter.all false
set_option maxRecDepth 100000
set_option maxHeartbeats 4000000
namespace Vf
open PySem PySem.Spec PyProof.Rows L2 TL LamX
/-- the paper while it is bent -/
def SpB (d l : Addr) (rt : V) (H : Hp) (kind : Int) (a s b : Nat) (σ' : L2.St) (H' : Hp) : Prop := ∃ (R : Addr) (rs : List (Option Int)) (x6 x7 x8 : Option V), σ' = [some (.ref d), some rt, some (.ref R), some (.int kind), some (nV a), some (nV s), x6, x7, x8] ∧ Kp d H H' ∧ DI d l H' ∧ H R = none ∧ R ≠ d ∧ R ≠ l ∧ H' R = some (.lst (rs.map oV)) ∧ a < rs.length ∧ rs.length ≤ b
theorem set_oV {rs : List (Option Int)} {a : Nat} {v : Option Int} : (rs.map oV).set a (oV v) = (rs.set a v).map oV := by rw [List.map_set]
theorem SpB.put {d l R : Addr} {rt : V} {H H' : Hp} {kind : Int} {a s b : Nat} {rs : List (Option Int)} {x6 x7 x8 : Option V} (v : Option Int) (k4 : Kp d H H') (D4 : DI d l H') (nR : H R = none) (d1 : R ≠ d) (d2 : R ≠ l) (ha : a < rs.length) (pl : rs.length ≤ b) :
    SpB d l rt H kind a s b [some (.ref d), some rt, some (.ref R), some (.int kind), some (nV a), some (nV s), x6, x7, x8] (upd H' R (.lst ((rs.map oV).set a (oV v)))) :=
  ⟨R, rs.set a v, x6, x7, x8, rfl, k4.mut nR, D4.at d1 d2, nR, d1, d2, by rw [upd_same, set_oV], by rw [List.length_set]; exact ha, by rw [List.length_set]; exact pl⟩
theorem erase_map : ∀ (rs : List (Option Int)) (a : Nat), (rs.map oV).eraseIdx a = (rs.eraseIdx a).map oV
  | [], _ => rfl
  | _ :: _, 0 => rfl
  | x :: r, a + 1 => congrArg (oV x :: ·) (erase_map r a)
/-- an `if` expression whose two arms tell one thing -/
theorem ifE {α : Type} {te : TE} {σ : L2.St} {H : Hp} {Q : VK} (I : α → Hp → Prop) (v : α → V) (h : ∀ Qc : VK, (∀ n H', I n H' → Qc (v n) H') → te σ H Qc) (k : ∀ n H', I n H' → Q (v n) H') : te σ H Q := h Q k
theorem no_non (o : Option Int) : (!decide (oV o = V.non)) = decide (¬ o = none) := by
  rw [← decide_not]
  exact decide_eq_decide.mpr (not_congr oV_non)
theorem iV_eq (a b : Int) : decide (V.int a = V.int b) = decide (a = b) := decide_eq_decide.mpr ⟨fun h => V.int.inj h, fun h => by rw [h]⟩
section
variable {P : Program} {w : World} {K : PySem.W.Frag} {mg : Str → Option Value} {base : Heap}
def spBent : Sp := fun vs H Q _ => ∃ (d l p : Addr) (ps : List (Option Int)), vs = [.ref d, .ref p] ∧ DI d l H ∧ H p = some (.tup (ps.map oV)) ∧ 0 < ps.length ∧ ps.length ≤ 91 ∧
  ∀ (H' : Hp) (b : Addr) (ps' : List (Option Int)), Kp d H H' → DI d l H' → H' b = some (.tup (ps'.map oV)) → ps'.length ≤ 92 → Q (.ref b) H'
theorem ok_bent (T : Txt K mg) : FnOk P w K mg base CX0 3 T.a_law_bent_paper T.d_law_bent_paper ["_law_d", "_law_right"] spBent := by
  have G_law_draw : FnOk P w K mg base CX0 1 T.a_law_draw T.d_law_draw ["_law_d", "_law_many"] spDraw := ok_draw T
  refine T.D_law_bent_paper.F.ok sc_law_bent_paper (fun vs H Q E h => ?_) (fun cdv A outer s H vs Q E hr h => ?_)
  · obtain ⟨_, _, _, _, rfl, _⟩ := h
    rfl
  · obtain ⟨d, l, p, ps, rfl, hD, ep, p0, pl, q⟩ := h
    refine ⟨_, (pss_cons (ps_set (i := 2) sc_law_bent_paper.nd rfl (.inr rfl) (pe_callTy call_list_of (by rfl) T.n_list (by decide +kernel) (pa_cons (pv 1) pa_nil)))
      (pss_cons (ps_set (i := 3) sc_law_bent_paper.nd rfl (.inl rfl) (pe_call G_law_draw (hr.mono (by decide)) (by rfl) T.D_law_draw.G T.D_law_draw.F.kp T.D_law_draw.B .nil pass0 (pa_cons (pv 0) (pa_cons pe_int pa_nil))))
      (pss_cons (ps_set (i := 4) sc_law_bent_paper.nd rfl (.inr rfl) (pe_call G_law_draw (hr.mono (by decide)) (by rfl) T.D_law_draw.G T.D_law_draw.F.kp T.D_law_draw.B .nil pass0 (pa_cons (pv 0) (pa_cons (pe_callB call_len_seq (by rfl) T.n_len PySem.boot_len (pa_cons (pv 2) pa_nil)) pa_nil))))
      (pss_cons (ps_set (i := 5) sc_law_bent_paper.nd rfl (.inr rfl) (pe_ifExp (pt_cmpR op_eq (pe_call G_law_draw (hr.mono (by decide)) (by rfl) T.D_law_draw.G T.D_law_draw.F.kp T.D_law_draw.B .nil pass0 (pa_cons (pv 0) (pa_cons pe_int pa_nil))) pe_int (nomark _)) (pe_op op_add pe_int (pe_call G_law_draw (hr.mono (by decide)) (by rfl) T.D_law_draw.G T.D_law_draw.F.kp T.D_law_draw.B .nil pass0 (pa_cons (pv 0) (pa_cons pe_int pa_nil)))) pe_int))
      (Evl.pss_cut (ps_if (PW.pt (pw_or (pt_cmpR op_eq (pv 3) pe_int (nomark _)) (pw_or1 (pt_cmpR op_eq (pv 3) pe_int (nomark _))))) (pss_one (ps_set (i := 2) sc_law_bent_paper.nd rfl (.inr rfl) (pe_lc (own := [("_law_one", 7)]) (g := gName 7) (tt := tYes) rfl sc_law_bent_paper.nd (pi_list (pv 2)) (blkOk_by (own := [("_law_one", 7)]) (N := ["_law_d", "_law_right", "_law_paper", "_law_kind", "_law_at", "_law_some", "_law_more", "_law_one", "_law_k"]) (sc := (defScope s_law_bent_paper)) (by decide +kernel)) (fun _ _ _ _ _ => (pg_name (i := 7) sc_law_bent_paper.nd rfl (.inl rfl))) (fun _ _ _ _ _ => pts_nil) (fun _ _ _ _ _ => (pe_ifExp (pt_cmpR op_isN (pv 7) pe_non (nomark _)) pe_non (pe_callB (call_min2 (by rfl)) (by rfl) T.n_min (by decide +kernel) (pa_cons (pv 7) (pa_cons (pe_op op_mul (pv 5) (pv 5)) pa_nil)))))))) pss_nil)
      (Evl.pss_cut (ps_if (PW.pt (pw_and (pt_cmpR op_eq (pv 3) pe_int (nomark _)) (pw_and1 (pt_cmpR op_notN (pe_ix ix_list (pv 2) (pv 4) (fun _ _ => rfl)) pe_non (nomark _))))) (pss_one (ps_asg (pe_op op_sub (pe_ix ix_list (pv 2) (pv 4) (fun _ _ => rfl)) (pv 5)) (pg_sub (pv 2) (pv 4) set_list))) pss_nil)
      (Evl.pss_cut (ps_if (PW.pt (pw_and (pt_cmpR op_eq (pv 3) pe_int (nomark _)) (pw_and1 (pt_cmpR op_notN (pe_ix ix_list (pv 2) (pv 4) (fun _ _ => rfl)) pe_non (nomark _))))) (pss_one (ps_asg (pe_op op_add (pe_ix ix_list (pv 2) (pv 4) (fun _ _ => rfl)) (pv 5)) (pg_sub (pv 2) (pv 4) set_list))) pss_nil)
      (Evl.pss_cut (ps_if (PW.pt (pw_or (pt_cmpR op_eq (pv 3) pe_int (nomark _)) (pw_or1 (pt_cmpR op_eq (pv 3) pe_int (nomark _))))) (pss_cons (ps_set (i := 6) sc_law_bent_paper.nd rfl (.inr rfl) (pe_ifExp (pt_cmpR op_eq (pv 3) pe_int (nomark _)) (pv 5) (pe_op op_sub pe_int (pv 5))))
      (pss_one (ps_set (i := 2) sc_law_bent_paper.nd rfl (.inr rfl) (pe_lc (own := [("_law_k", 8)]) (g := gName 8) (tt := tYes) rfl sc_law_bent_paper.nd (pi_range1 (by rfl) T.n_range (pa_cons (pe_callB call_len_seq (by rfl) T.n_len PySem.boot_len (pa_cons (pv 2) pa_nil)) pa_nil)) (blkOk_by (own := [("_law_k", 8)]) (N := ["_law_d", "_law_right", "_law_paper", "_law_kind", "_law_at", "_law_some", "_law_more", "_law_one", "_law_k"]) (sc := (defScope s_law_bent_paper)) (by decide +kernel)) (fun _ _ _ _ _ => (pg_name (i := 8) sc_law_bent_paper.nd rfl (.inl rfl))) (fun _ _ _ _ _ => pts_nil) (fun _ _ _ _ _ => (pe_ifExp (PW.pt (pw_or (pt_cmpR op_lt (pv 8) (pv 4) (nomark _)) (pw_or1 (pt_cmpR op_isN (pe_ix (r := rIxL K) ix_list (pv 2) (pv 8) (fun _ _ => rfl)) pe_non (nomark _))))) (pe_ix (r := rIxL K) ix_list (pv 2) (pv 8) (fun _ _ => rfl)) (pe_op op_add (pe_ix (r := rIxL K) ix_list (pv 2) (pv 8) (fun _ _ => rfl)) (pv 6)))))))) pss_nil)
      (Evl.pss_cut (ps_if (pt_cmpR op_eq (pv 3) pe_int (nomark _)) (pss_one (ps_asg (pe_ifExp (pt_cmpR op_isN (pe_ix ix_list (pv 2) (pv 4) (fun _ _ => rfl)) pe_non (nomark _)) (pv 5) pe_non) (pg_sub (pv 2) (pv 4) set_list))) pss_nil)
      (Evl.pss_cut (ps_if (pt_cmpR op_eq (pv 3) pe_int (nomark _)) (pss_one (ps_expr (pe_bm PySem.F.plainAttrs_list PySem.F.slot_list_insert PySem.F.type_list_insert mt_insert (pv 2) (pa_cons (pv 4) (pa_cons (pe_ix ix_list (pv 2) (pv 4) (fun _ _ => rfl)) pa_nil))))) pss_nil)
      (Evl.pss_cut (ps_if (pt_cmpR op_eq (pv 3) pe_int (nomark _)) (pss_one (ps_expr (pe_bm PySem.F.plainAttrs_list PySem.F.slot_list_pop PySem.F.type_list_pop mt_popAt (pv 2) (pa_cons (pv 4) pa_nil)))) pss_nil)
      (pss_one (ps_ret (pe_callTy call_tuple_of (by rfl) T.n_tuple (by decide +kernel) (pa_cons (pv 2) pa_nil))))))))))))))), ?_⟩
    refine ⟨_, rfl, p, _, rfl, .inr (SqT.of ep), fun R nR => ?_⟩
    have D1 := hD.new (o := .lst (ps.map oV)) nR
    have k1 := (Kp.refl d H).new (o := .lst (ps.map oV)) nR
    have dR := hD.nd nR
    refine ⟨_, rfl, d, l, 9, rfl, D1, by decide, fun H2 kind k2 D2 _ _ => ?_⟩
    have eR2 := k2 _ _ dR.1 (show upd H R (.lst (ps.map oV)) R = _ from upd_same)
    refine ⟨_, rfl, _, rfl, R, _, rfl, .inl (SqL.of eR2), d, l, _, rfl, D2, by rw [List.length_map]; omega, fun H3 r k3 D3 ra rb => ?_⟩
    rw [List.length_map] at ra rb
    obtain ⟨a, ha, rfl⟩ : ∃ a : Nat, a < ps.length ∧ r = (a : Int) := by
      by_cases h : (ps.length : Int) < 2
      · exact ⟨0, p0, ra h⟩
      · have := rb (by omega)
        exact ⟨r.toNat, by omega, by omega⟩
    have k3' := (k1.trans k2).trans k3
    have eR3 : H3 R = some (.lst (ps.map oV)) := k3 _ _ dR.1 eR2
    clear D1 k1 k2 D2 eR2 ra rb k3
    have k3 := k3'
    clear k3'
    have mid : ∀ (s : Nat) (H5 : Hp), s ≤ 31 → Kp d H H5 → DI d l H5 → H5 R = some (.lst (ps.map oV)) → SpB d l (.ref p) H kind a s 91 [some (.ref d), some (.ref p), some (.ref R), some (.int kind), some (nV a), some (nV s), none, none, none] H5 := fun s H5 hs k5 D5 e5 => ⟨R, ps, none, none, none, rfl, k5, D5, nR, dR.1, dR.2, e5, ha, pl⟩
    clear ep p0
    dsimp only [gName, tSeq, tAsg]
    refine ifE (te := tIf _ _ _) (fun s H5 => s ≤ 31 ∧ Kp d H H5 ∧ DI d l H5 ∧ H5 R = some (.lst (ps.map oV))) nV (fun Qc h => ?_) (fun s H5 ⟨hs, k5, D5, e5⟩ => ?_)
    · refine ⟨_, rfl, d, l, 2, rfl, D3, by decide, fun H4 r2 k4 D4 _ _ => ?_⟩
      refine ⟨rfl, _, rfl, ?_⟩
      refine ifD (fun c => ?_) (fun c => ?_)
      · refine ⟨_, rfl, d, l, 30, rfl, D4, by decide, fun H5 y k5 D5 _ r30 => ?_⟩
        have ⟨y0, y1⟩ := r30 (by decide)
        obtain ⟨yn, rfl⟩ : ∃ n : Nat, y = (n : Int) := ⟨y.toNat, by omega⟩
        exact ⟨_, _, rfl, rfl, h (1 + yn) H5 ⟨by omega, (k3.trans k4).trans k5, D5, k5 _ _ dR.1 (k4 _ _ dR.1 eR3)⟩⟩
      · exact h 1 H4 ⟨by decide, k3.trans k4, D4, k4 _ _ dR.1 eR3⟩
    have I0 := mid s H5 hs k5 D5 e5
    clear mid k3 D3 eR3 k5 D5 e5 ha
    -- cut off at a number
    refine ⟨SpB d l (.ref p) H kind a s 91, ?_, ?_⟩
    · refine ifs_of (p := kind = 0 ∨ kind = 1) (or_one (fun R' h => ⟨_, rfl, rfl, _, congrArg V.bl (iV_eq kind 0), h⟩) (fun _ R' h => ⟨_, rfl, rfl, _, congrArg V.bl (iV_eq kind 1), h⟩)) (fun c => ?_) (fun c => I0)
      obtain ⟨R, rs, x6, x7, x8, e0, k4, D4, nR, d1, d2, eR, ha, pl⟩ := I0
      injection e0 with _ e0
      injection e0 with _ e0
      injection e0 with e1 e0
      have e1 := Option.some.inj e1
      injection e1 with e1
      subst e1
      refine ⟨_, rfl, _, rfl, ⟨_, SqL.of eR⟩, fun D nD => ?_⟩
      have dD := D4.nd nD
      refine lc_it (walk_list (K := K) (a := _) (xs := rs.map oV)) (fun i H' => ∃ zs : List (Option Int), zs.length = i ∧ Kp d H5 H' ∧ DI d l H' ∧ H' D = some (.lst (zs.map oV))) ⟨[], rfl, (Kp.refl d H5).new nD, D4.new nD, upd_same⟩ ?_ ?_ ?_
      · rintro i H' _ ⟨_, _, k, _, _⟩
        exact SqL.of (k _ _ d1 eR)
      · rintro i x Ha H6 hi ⟨zs, lz, k6, D6, eD⟩ ⟨rfl, hx⟩
        rw [List.length_map] at hi
        rw [pg_at hi] at hx
        have hx := Option.some.inj hx
        subst hx
        have fin : ∀ v : Option Int, ∃ acc, H6 D = some (.lst acc) ∧ acc.length < sizeLine ∧ ∃ zs : List (Option Int), zs.length = i + 1 ∧ Kp d H5 (upd H6 D (.lst (acc ++ [oV v]))) ∧ DI d l (upd H6 D (.lst (acc ++ [oV v]))) ∧ upd H6 D (.lst (acc ++ [oV v])) D = some (.lst (zs.map oV)) := fun v =>
          ⟨_, eD, by rw [List.length_map]; exact szN (by omega), zs ++ [v], by rw [List.length_append, lz]; rfl, k6.mut nD, D6.at dD.1 dD.2, by rw [upd_same, List.map_append]; rfl⟩
        cases hv : pg rs i with
        | none =>
          refine ⟨by kernel_rfl, V.non, by kernel_rfl, rfl, true, rfl, ?_⟩
          exact fin none
        | some y =>
          refine ⟨by kernel_rfl, V.int y, by kernel_rfl, rfl, false, rfl, ?_⟩
          refine ⟨V.int y, by kernel_rfl, nV s, by kernel_rfl, nV s, by kernel_rfl, _, _, rfl, rfl, .inl ⟨by omega, by omega⟩, _, _, rfl, fin (some _)⟩
      · rintro H6 ⟨zs, lz, k6, D6, eD⟩
        rw [List.length_map] at lz
        exact ⟨D, zs, _, _, _, rfl, k4.trans k6, D6, none_kp k4 dD.1 nD, dD.1, dD.2, eD, by omega, by omega⟩
    rintro σ' H4 ⟨R, rs, x6, x7, x8, rfl, k3, D3, nR, d1, d2, eR3, ha, pl⟩
    have gp := pg_at ha
    have iS : ixN (rs.map oV).length (a : Int) = some a := ixN_nat (by rw [List.length_map]; exact ha)
    have I0 : SpB d l (.ref p) H kind a s 91 [some (.ref d), some (.ref p), some (.ref R), some (.int kind), some (nV a), some (nV s), x6, x7, x8] H4 := ⟨R, rs, x6, x7, x8, rfl, k3, D3, nR, d1, d2, eR3, ha, by omega⟩
    refine ⟨SpB d l (.ref p) H kind a s 91, ?_, ?_⟩
    · refine ifs_of (p := kind = 2 ∧ ¬ pg rs a = none) (and_one (fun R' h => ⟨_, rfl, rfl, _, congrArg V.bl (iV_eq kind 2), h⟩) (fun R' h => ⟨_, rfl, _, rfl, R, _, _, _, rfl, rfl, SqL.of eR3, atI_nat gp, rfl, _, congrArg V.bl (no_non _), h⟩)) (fun c => ?_) (fun c => I0)
      obtain ⟨x, hx⟩ := Option.ne_none_iff_exists'.mp c.2
      rw [hx] at gp
      refine ⟨_, rfl, _, rfl, R, _, _, _, rfl, rfl, SqL.of eR3, atI_nat gp, _, rfl, _, _, rfl, rfl, _, rfl, _, rfl, R, _, _, _, rfl, rfl, eR3, iS, ?_⟩
      exact SpB.put (some (x - (s : Int))) k3 D3 nR d1 d2 ha pl
    clear I0
    rintro σ' H4 ⟨R, rs, x6, x7, x8, rfl, k3, D3, nR, d1, d2, eR3, ha, pl⟩
    have gp := pg_at ha
    have iS : ixN (rs.map oV).length (a : Int) = some a := ixN_nat (by rw [List.length_map]; exact ha)
    have I0 : SpB d l (.ref p) H kind a s 91 [some (.ref d), some (.ref p), some (.ref R), some (.int kind), some (nV a), some (nV s), x6, x7, x8] H4 := ⟨R, rs, x6, x7, x8, rfl, k3, D3, nR, d1, d2, eR3, ha, by omega⟩
    refine ⟨SpB d l (.ref p) H kind a s 91, ?_, ?_⟩
    · refine ifs_of (p := kind = 3 ∧ ¬ pg rs a = none) (and_one (fun R' h => ⟨_, rfl, rfl, _, congrArg V.bl (iV_eq kind 3), h⟩) (fun R' h => ⟨_, rfl, _, rfl, R, _, _, _, rfl, rfl, SqL.of eR3, atI_nat gp, rfl, _, congrArg V.bl (no_non _), h⟩)) (fun c => ?_) (fun c => I0)
      obtain ⟨x, hx⟩ := Option.ne_none_iff_exists'.mp c.2
      rw [hx] at gp
      refine ⟨_, rfl, _, rfl, R, _, _, _, rfl, rfl, SqL.of eR3, atI_nat gp, _, rfl, _, _, rfl, rfl, _, rfl, _, rfl, R, _, _, _, rfl, rfl, eR3, iS, ?_⟩
      exact SpB.put (some (x + (s : Int))) k3 D3 nR d1 d2 ha pl
    clear I0
    rintro σ' H4 ⟨R, rs, x6, x7, x8, rfl, k3, D3, nR, d1, d2, eR3, ha, pl⟩
    have gp := pg_at ha
    have iS : ixN (rs.map oV).length (a : Int) = some a := ixN_nat (by rw [List.length_map]; exact ha)
    have I0 : SpB d l (.ref p) H kind a s 91 [some (.ref d), some (.ref p), some (.ref R), some (.int kind), some (nV a), some (nV s), x6, x7, x8] H4 := ⟨R, rs, x6, x7, x8, rfl, k3, D3, nR, d1, d2, eR3, ha, by omega⟩
    refine ⟨SpB d l (.ref p) H kind a s 91, ?_, ?_⟩
    · refine ifs_of (p := kind = 4 ∨ kind = 5) (or_one (fun R' h => ⟨_, rfl, rfl, _, congrArg V.bl (iV_eq kind 4), h⟩) (fun _ R' h => ⟨_, rfl, rfl, _, congrArg V.bl (iV_eq kind 5), h⟩)) (fun c => ?_) (fun c => I0)
      dsimp only [gName, tSeq, tAsg]
      refine ifE (te := tIf _ _ _) (fun (_ : Int) H5 => H5 = H4) V.int (fun Qc h => ?_) (fun m H5 e => ?_)
      · refine ⟨_, rfl, rfl, _, rfl, ?_⟩
        refine ifD (fun c => ?_) (fun c => ?_)
        · exact ⟨_, rfl, h _ H4 rfl⟩
        · exact ⟨_, rfl, _, _, rfl, rfl, h _ H4 rfl⟩
      subst e
      refine ⟨_, rfl, R, _, rfl, .inl (SqL.of eR3), _, rfl, by rw [List.length_map]; omega, by rw [List.length_map]; omega, ?_⟩
      refine fun D nD => lc_range (lo := 0) (n := (((rs.map oV).length : Nat) : Int).toNat) (fun i H' => ∃ zs : List (Option Int), zs.length = i ∧ Kp d H5 H' ∧ DI d l H' ∧ H' D = some (.lst (zs.map oV))) ⟨[], rfl, (Kp.refl d H5).new nD, D3.new nD, upd_same⟩ (fun i H1 hi p => ⟨by kernel_rfl, ?_⟩) (fun H' p => ?_)
      · obtain ⟨zs, lz, k6, D6, eD⟩ := p
        have hi : i < rs.length := by rw [List.length_map] at hi; omega
        have gi := pg_at hi
        have ei : (0 : Int) + (i : Int) = (i : Int) := Int.zero_add _
        have eR6 := k6 _ _ d1 eR3
        have dD := D3.nd nD
        have fin : ∀ v : Option Int, ∃ acc, H1 D = some (.lst acc) ∧ acc.length < sizeLine ∧ ∃ zs : List (Option Int), zs.length = i + 1 ∧ Kp d H5 (upd H1 D (.lst (acc ++ [oV v]))) ∧ DI d l (upd H1 D (.lst (acc ++ [oV v]))) ∧ upd H1 D (.lst (acc ++ [oV v])) D = some (.lst (zs.map oV)) := fun v =>
          ⟨_, eD, by rw [List.length_map]; exact szN (by omega), zs ++ [v], by rw [List.length_append, lz]; rfl, k6.mut nD, D6.at dD.1 dD.2, by rw [upd_same, List.map_append]; rfl⟩
        refine ⟨V.int (0 + (i : Int)), by kernel_rfl, nV a, by kernel_rfl, _, _, rfl, rfl, ?_⟩
        by_cases c1 : 0 + (i : Int) < (a : Int)
        · refine ⟨true, bTr c1, ?_⟩
          exact ⟨V.ref R, by kernel_rfl, V.int (0 + (i : Int)), by kernel_rfl, R, _, _, _, rfl, rfl, SqL.of eR6, by rw [ei]; exact atI_nat gi, fin _⟩
        refine ⟨false, bFa c1, ?_⟩
        refine ⟨V.ref R, by kernel_rfl, V.int (0 + (i : Int)), by kernel_rfl, R, _, _, _, rfl, rfl, SqL.of eR6, by rw [ei]; exact atI_nat gi, rfl, ?_⟩
        cases hv : pg rs i with
        | none =>
          rw [hv] at gi
          refine ⟨true, rfl, ?_⟩
          exact ⟨V.ref R, by kernel_rfl, V.int (0 + (i : Int)), by kernel_rfl, R, _, _, _, rfl, rfl, SqL.of eR6, by rw [ei]; exact atI_nat gi, fin none⟩
        | some x =>
          rw [hv] at gi
          refine ⟨false, rfl, ?_⟩
          exact ⟨V.ref R, by kernel_rfl, V.int (0 + (i : Int)), by kernel_rfl, R, _, _, _, rfl, rfl, SqL.of eR6, by rw [ei]; exact atI_nat gi, V.int m, by kernel_rfl, _, _, rfl, rfl, fin (some _)⟩
      · obtain ⟨zs, lz, k6, D6, eD⟩ := p
        have dD := D3.nd nD
        have lz : zs.length = rs.length := by rw [lz, List.length_map]; exact Int.toNat_natCast _
        exact ⟨D, zs, _, _, _, rfl, k3.trans k6, D6, none_kp k3 dD.1 nD, dD.1, dD.2, eD, by omega, by omega⟩
    clear I0
    rintro σ' H4 ⟨R, rs, x6, x7, x8, rfl, k3, D3, nR, d1, d2, eR3, ha, pl⟩
    have gp := pg_at ha
    have iS : ixN (rs.map oV).length (a : Int) = some a := ixN_nat (by rw [List.length_map]; exact ha)
    have I0 : SpB d l (.ref p) H kind a s 91 [some (.ref d), some (.ref p), some (.ref R), some (.int kind), some (nV a), some (nV s), x6, x7, x8] H4 := ⟨R, rs, x6, x7, x8, rfl, k3, D3, nR, d1, d2, eR3, ha, by omega⟩
    refine ⟨SpB d l (.ref p) H kind a s 91, ?_, ?_⟩
    · refine ifs_of (p := kind = 6) (fun R' h => ⟨_, rfl, rfl, _, congrArg V.bl (iV_eq kind 6), h⟩) (fun c => ?_) (fun c => I0)
      cases hv : pg rs a with
      | none =>
        rw [hv] at gp
        refine ⟨_, rfl, _, rfl, R, _, _, _, rfl, rfl, SqL.of eR3, atI_nat gp, rfl, true, rfl, ?_⟩
        refine ⟨_, rfl, _, rfl, _, rfl, R, _, _, _, rfl, rfl, eR3, iS, ?_⟩
        exact SpB.put (some (s : Int)) k3 D3 nR d1 d2 ha pl
      | some x =>
        rw [hv] at gp
        refine ⟨_, rfl, _, rfl, R, _, _, _, rfl, rfl, SqL.of eR3, atI_nat gp, rfl, false, rfl, ?_⟩
        refine ⟨_, rfl, _, rfl, R, _, _, _, rfl, rfl, eR3, iS, ?_⟩
        exact SpB.put none k3 D3 nR d1 d2 ha pl
    clear I0
    rintro σ' H4 ⟨R, rs, x6, x7, x8, rfl, k3, D3, nR, d1, d2, eR3, ha, pl⟩
    have gp := pg_at ha
    have iS : ixN (rs.map oV).length (a : Int) = some a := ixN_nat (by rw [List.length_map]; exact ha)
    have I0 : SpB d l (.ref p) H kind a s 92 [some (.ref d), some (.ref p), some (.ref R), some (.int kind), some (nV a), some (nV s), x6, x7, x8] H4 := ⟨R, rs, x6, x7, x8, rfl, k3, D3, nR, d1, d2, eR3, ha, by omega⟩
    refine ⟨SpB d l (.ref p) H kind a s 92, ?_, ?_⟩
    · refine ifs_of (p := kind = 7) (fun R' h => ⟨_, rfl, rfl, _, congrArg V.bl (iV_eq kind 7), h⟩) (fun c => ?_) (fun c => I0)
      refine ⟨.ref R, rfl, .inl ⟨rfl, _, .inl (.inl eR3)⟩, _, rfl, _, rfl, _, rfl, R, _, _, _, rfl, rfl, SqL.of eR3, atI_nat gp, ?_⟩
      refine ⟨R, _, (a : Int), _, rfl, rfl, eR3, by rw [List.length_map]; exact szN (by omega), by omega, by omega, ?_⟩
      refine ⟨R, rs.take a ++ [pg rs a] ++ rs.drop a, _, _, _, rfl, k3.mut nR, D3.at d1 d2, nR, d1, d2, ?_, ?_, ?_⟩
      · rw [upd_same, List.map_append, List.map_append, List.map_take, List.map_drop]; rfl
      · rw [List.length_append, List.length_append, List.length_take, List.length_drop]
        show a < min a rs.length + 1 + (rs.length - a)
        omega
      · rw [List.length_append, List.length_append, List.length_take, List.length_drop]
        show min a rs.length + 1 + (rs.length - a) ≤ 92
        omega
    clear I0
    rintro σ' H4 ⟨R, rs, x6, x7, x8, rfl, k3, D3, nR, d1, d2, eR3, ha, pl⟩
    have gp := pg_at ha
    have iS : ixN (rs.map oV).length (a : Int) = some a := ixN_nat (by rw [List.length_map]; exact ha)
    have I0 : SpB d l (.ref p) H kind a s 92 [some (.ref d), some (.ref p), some (.ref R), some (.int kind), some (nV a), some (nV s), x6, x7, x8] H4 := ⟨R, rs, x6, x7, x8, rfl, k3, D3, nR, d1, d2, eR3, ha, by omega⟩
    refine ⟨fun σ' H' => ∃ (R : Addr) (rs : List (Option Int)) (x6 x7 x8 : Option V), σ' = [some (.ref d), some (.ref p), some (.ref R), some (.int kind), some (nV a), some (nV s), x6, x7, x8] ∧ Kp d H H' ∧ DI d l H' ∧ H' R = some (.lst (rs.map oV)) ∧ rs.length ≤ 92, ?_, ?_⟩
    · refine ifs_of (p := kind = 8) (fun R' h => ⟨_, rfl, rfl, _, congrArg V.bl (iV_eq kind 8), h⟩) (fun c => ?_) (fun c => ⟨R, rs, _, _, _, rfl, k3, D3, eR3, pl⟩)
      refine ⟨.ref R, rfl, .inl ⟨rfl, _, .inl (.inl eR3)⟩, _, rfl, ?_⟩
      refine ⟨R, _, (a : Int), a, _, rfl, rfl, eR3, by omega, by omega, (ixN_seq iS).1, gp, ?_⟩
      exact ⟨R, rs.eraseIdx a, _, _, _, rfl, k3.mut nR, D3.at d1 d2, by rw [upd_same, erase_map], Nat.le_trans (List.length_eraseIdx_le _ _) pl⟩
    rintro σ' H5 ⟨R, rs, x6, x7, x8, rfl, k3, D3, eR, pl⟩
    refine ⟨_, rfl, R, _, rfl, .inl ⟨SqL.of eR, fun B nB => ?_⟩⟩
    exact q _ B rs (k3.new nB) (D3.new nB) upd_same pl
end
end Vf

set_option Elab.async false
set_option linter.all false
set_option maxRecDepth 100000
set_option maxHeartbeats 4000000
namespace Vf
open PySem PySem.Spec PyProof.Rows L2 TL LamX
theorem arcAt_eq {M L : Nat} {S : Sty} {Z : List (List Nat)} {a b : Nat} {x y : Nat × Nat} (hx : (posL S Z)[a]? = some x) (hy : (posL S Z)[b]? = some y) : arcAt M L S Z a b = if natW S Z x.1 x.2 y ≤ M then some (a, b, costQ M L S Z x.2 y (natW S Z x.1 x.2 y)) else none := by
  unfold arcAt arcD
  rw [getD_of hx, getD_of hy]
theorem atQ_zero {S : Sty} {Z : List (List Nat)} : atQ S Z 0 = (0, 0) := by
  unfold atQ posL
  cases h : Z.length with
  | zero => rfl
  | succ n =>
    rw [List.range_succ_eq_map, List.flatMap_cons]
    unfold rowL
    rw [List.range_succ_eq_map]; rfl
theorem bd_tail {Pr : Arc → Prop} {f g : Nat → Option Nat} (B : Bd Pr f g) {v u : Nat} (e : g v = some u) : ∃ c, Pr (u, v, c) := by
  by_cases hv : v = 0
  · subst hv; rw [B.z.2] at e; cases e
  · cases h : f v with
    | none => rw [(B.n v hv h).1] at e; cases e
    | some y =>
      obtain ⟨u', c, x, h1, h2, _⟩ := B.s v y hv h
      rw [e] at h1
      have := Option.some.inj h1
      subst this
      exact ⟨c, h2⟩
def TwoP (S : Sty) (Z : List (List Nat)) (x y : Nat × Nat) : Prop := x.1 < Z.length ∧ x.2 ≤ nP S (wz Z x.1) ∧ ((x.1 = y.1 ∧ x.2 < y.2 ∧ y.2 ≤ nP S (wz Z x.1)) ∨ (x.1 < y.1 ∧ ((y.1, y.2) = (Z.length, 0) ∨ (y.1 < Z.length ∧ y.2 ≤ nP S (wz Z y.1)))))
theorem rw_arcs {as : List Arc} {f g : Nat → Option Nat} (B : Bd (· ∈ as) f g) (up : ∀ a ∈ as, a.1 < a.2.1) : ∀ n v, v ≤ n → ∀ u, u + 1 < (Rw g v).length → ∃ c, ((Rw g v).getD (u + 1) 0, (Rw g v).getD u 0, c) ∈ as
  | 0, v, h, u, hu => by
    have : v = 0 := by omega
    subst this
    rw [Rw_none B.z.2] at hu
    exact absurd hu (by show ¬ (u + 1 < 1); omega)
  | n + 1, v, h, u, hu => by
    cases e : g v with
    | none =>
      rw [Rw_none e] at hu
      exact absurd hu (by show ¬ (u + 1 < 1); omega)
    | some t =>
      have ht := B.dn up v t e
      obtain ⟨c, hc⟩ := bd_tail B e
      rw [Rw_some (B.dn up) e] at hu ⊢
      cases u with
      | zero =>
        obtain ⟨r, er⟩ := Rw_head g t
        rw [er]
        exact ⟨c, hc⟩
      | succ u =>
        obtain ⟨c', hc'⟩ := rw_arcs B up n t (by omega) u (by
          have hu : u + 1 + 1 < (Rw g t).length + 1 := hu
          omega)
        exact ⟨c', hc'⟩
theorem rev_getD {xs : List Nat} {u : Nat} (h : u < xs.length) : xs.reverse.getD u 0 = xs.getD (xs.length - 1 - u) 0 := by
  rw [List.getD_eq_getElem?_getD, List.getD_eq_getElem?_getD, List.getElem?_reverse h]
theorem arc_two {M L : Nat} {S : Sty} {Z : List (List Nat)} {a b c : Nat} (h : (a, b, c) ∈ netQ M L S Z) : a < b ∧ b < (posL S Z).length ∧ TwoP S Z (atQ S Z a) (atQ S Z b) ∧ natW S Z (atQ S Z a).1 (atQ S Z a).2 (atQ S Z b) ≤ M := by
  have hu := netQ_up _ h
  have h1 : a < b := hu.1
  have h2 : b < (posL S Z).length := hu.2
  obtain ⟨s, hs, e⟩ := (net_row (M := M) (L := L) (S := S) (Z := Z) (a := a) (by omega) (a, b, c)).mp ⟨h, rfl⟩
  have eb := (arcAt_is e).2
  have eb : b = a + 1 + s := eb
  subst eb
  have ga : (posL S Z)[a]? = some (atQ S Z a) := by
    have g : (posL S Z)[a]? = some (posL S Z)[a] := List.getElem?_eq_getElem (by omega)
    rw [g]; unfold atQ; rw [getD_of g]
  have gb : (posL S Z)[a + 1 + s]? = some (atQ S Z (a + 1 + s)) := by
    have g : (posL S Z)[a + 1 + s]? = some (posL S Z)[a + 1 + s] := List.getElem?_eq_getElem h2
    rw [g]; unfold atQ; rw [getD_of g]
  refine ⟨h1, h2, pos_two h1 ga gb, ?_⟩
  rw [arcAt_eq ga gb] at e
  by_cases c : natW S Z (atQ S Z a).1 (atQ S Z a).2 (atQ S Z (a + 1 + s)) ≤ M
  · exact c
  · rw [if_neg c] at e; cases e
structure WayF (M : Nat) (S : Sty) (Z : List (List Nat)) (ns : List Nat) : Prop where
  asc : ∀ u, u + 1 < ns.length → ns.getD u 0 < ns.getD (u + 1) 0 ∧ ns.getD (u + 1) 0 < (posL S Z).length
  two : ∀ u, u + 1 < ns.length → TwoP S Z (atQ S Z (ns.getD u 0)) (atQ S Z (ns.getD (u + 1) 0))
  fit : ∀ u, u + 1 < ns.length → natW S Z (atQ S Z (ns.getD u 0)).1 (atQ S Z (ns.getD u 0)).2 (atQ S Z (ns.getD (u + 1) 0)) ≤ M
  pos : 1 ≤ ns.length
  len : ns.length ≤ (posL S Z).length
  last : ns.getD (ns.length - 1) 0 = (posL S Z).length - 1
theorem way_of {M L : Nat} {S : Sty} {Z : List (List Nat)} {f g : Nat → Option Nat} (B : Bd (· ∈ netQ M L S Z) f g) : WayF M S Z (Rw g ((posL S Z).length - 1)).reverse := by
  have up : ∀ a ∈ netQ M L S Z, a.1 < a.2.1 := fun a h => (netQ_up a h).1
  have hl := Rw_len (B.dn up) ((posL S Z).length - 1) _ (Nat.le_refl _)
  have hp := pos_pos (S := S) (Z := Z)
  obtain ⟨r, er⟩ := Rw_head g ((posL S Z).length - 1)
  have arcs : ∀ u, u + 1 < (Rw g ((posL S Z).length - 1)).reverse.length → ∃ c, ((Rw g ((posL S Z).length - 1)).reverse.getD u 0, (Rw g ((posL S Z).length - 1)).reverse.getD (u + 1) 0, c) ∈ netQ M L S Z := fun u hu => by
    rw [List.length_reverse] at hu
    obtain ⟨c, hc⟩ := rw_arcs B up ((posL S Z).length - 1) ((posL S Z).length - 1) (Nat.le_refl _) ((Rw g ((posL S Z).length - 1)).length - 1 - (u + 1)) (by omega)
    refine ⟨c, ?_⟩
    rw [rev_getD (by omega), rev_getD hu]
    rw [show (Rw g ((posL S Z).length - 1)).length - 1 - (u + 1) + 1 = (Rw g ((posL S Z).length - 1)).length - 1 - u by omega] at hc
    exact hc
  refine ⟨fun u hu => ?_, fun u hu => ?_, fun u hu => ?_, ?_, ?_, ?_⟩
  · obtain ⟨c, hc⟩ := arcs u hu
    exact ⟨(arc_two hc).1, (arc_two hc).2.1⟩
  · obtain ⟨c, hc⟩ := arcs u hu
    exact (arc_two hc).2.2.1
  · obtain ⟨c, hc⟩ := arcs u hu
    exact (arc_two hc).2.2.2
  · rw [List.length_reverse, er]; exact Nat.succ_pos _
  · rw [List.length_reverse]; omega
  · have h0 : 0 < (Rw g ((posL S Z).length - 1)).length := by rw [er]; exact Nat.succ_pos _
    rw [List.length_reverse, rev_getD (by omega), show (Rw g ((posL S Z).length - 1)).length - 1 - ((Rw g ((posL S Z).length - 1)).length - 1) = 0 by omega, er]; rfl
theorem atQ_at {S : Sty} {Z : List (List Nat)} {j : Nat} (h : j < (posL S Z).length) : (posL S Z)[j]? = some (atQ S Z j) := by
  have g : (posL S Z)[j]? = some (posL S Z)[j] := List.getElem?_eq_getElem h
  rw [g]; unfold atQ; rw [getD_of g]
theorem getD_map {α β : Type} {f : α → β} {xs : List α} {i : Nat} {d : α} (h : i < xs.length) : (xs.map f)[i]? = some (f (xs.getD i d)) := by
  have e : xs[i]? = some xs[i] := List.getElem?_eq_getElem h
  rw [List.getElem?_map, e, List.getD_eq_getElem?_getD, e]; rfl
theorem rw_first {Pr : Arc → Prop} {f g : Nat → Option Nat} (B : Bd Pr f g) (dn : ∀ v u, g v = some u → u < v) : ∀ n v, v ≤ n → ∀ z, f v = some z → ∃ xs, Rw g v = xs ++ [0]
  | n, 0, _, z, _ => ⟨[], Rw_none B.z.2⟩
  | 0, v + 1, h, _, _ => absurd h (by omega)
  | n + 1, v + 1, h, z, e => by
    obtain ⟨u, c, x, h1, h2, h3, _⟩ := B.s (v + 1) z (by omega) e
    have hd := dn _ _ h1
    obtain ⟨xs, ex⟩ := rw_first B dn n u (by omega) x h3
    exact ⟨(v + 1) :: xs, by rw [Rw_some dn h1, ex]; rfl⟩
theorem posL_last (S : Sty) (Z : List (List Nat)) : atQ S Z ((posL S Z).length - 1) = (Z.length, 0) := by
  unfold atQ posL
  rw [List.length_append]
  show ((List.range Z.length).flatMap (rowL S Z) ++ [(Z.length, 0)]).getD (((List.range Z.length).flatMap (rowL S Z)).length + 1 - 1) (0, 0) = _
  rw [Nat.add_sub_cancel, List.getD_eq_getElem?_getD, List.getElem?_append_right (Nat.le_refl _), Nat.sub_self]; rfl
def cstN (M L : Nat) (S : Sty) (Z : List (List Nat)) (ns : List Nat) (u : Nat) : Nat := costQ M L S Z (atQ S Z (ns.getD u 0)).2 (atQ S Z (ns.getD (u + 1) 0)) (natW S Z (atQ S Z (ns.getD u 0)).1 (atQ S Z (ns.getD u 0)).2 (atQ S Z (ns.getD (u + 1) 0)))
def totN (M L : Nat) (S : Sty) (Z : List (List Nat)) (ns : List Nat) : Nat → Nat
  | 0 => 0
  | u + 1 => totN M L S Z ns u + cstN M L S Z ns u
theorem eqv_prs : ∀ rs : List (Nat × Nat), PyData.eqvAll (rs.map dPr) (rs.map dPr) = true
  | [] => rfl
  | r :: rs => by
    show (PyData.eqv (dPr r) (dPr r) && PyData.eqvAll (rs.map dPr) (rs.map dPr)) = true
    rw [eqv_pr_self, eqv_prs rs]; rfl
theorem lay_pr (p : Nat × Nat) : (dPr p).canLay0 = true := by
  simp [dPr, PyData.canLay0, PyData.canLayAll0]
theorem lay_prs : ∀ ps : List (Nat × Nat), PyData.canLayAll0 (ps.map dPr) = true
  | [] => rfl
  | p :: ps => by
    simp only [List.map_cons, PyData.canLayAll0, Bool.and_eq_true]
    exact ⟨lay_pr p, lay_prs ps⟩
theorem lprs_shaped (ps : List (Nat × Nat)) : SeqAt.shaped (.list (ps.map dPr)) = true :=
  Bool.and_eq_true_iff.mpr ⟨by simp only [PyData.canLay0]; exact lay_prs ps, decide_eq_true (by have := dep_prs ps; simp only [PyData.depth]; omega)⟩
theorem way_first {M L : Nat} {S : Sty} {Z : List (List Nat)} {f g : Nat → Option Nat} (B : Bd (· ∈ netQ M L S Z) f g) {y : Nat} (e : f ((posL S Z).length - 1) = some y) : (Rw g ((posL S Z).length - 1)).reverse.getD 0 0 = 0 := by
  obtain ⟨xs, ex⟩ := rw_first B (B.dn fun a h => (netQ_up a h).1) _ _ (Nat.le_refl _) y e
  rw [ex, List.reverse_append]; rfl
theorem exT' {H H' : Hp} (e : ExtN H H') : ∀ a xs, H a = some (.tup xs) → H' a = some (.tup xs) := fun a xs h => e _ _ h (fun _ z => by cases z)
theorem exL' {H H' : Hp} (e : ExtN H H') {a : Addr} {xs : List V} (h : H a = some (.lst xs)) : H' a = some (.lst xs) := e _ _ h (fun _ z => by cases z)
theorem pr_shaped (p : Nat × Nat) : SeqAt.shaped (dPr p) = true :=
  Bool.and_eq_true_iff.mpr ⟨lay_pr p, decide_eq_true (by have := dep_prs [p]; simp only [List.map_cons, List.map_nil, PyData.depthAll] at this; omega)⟩
theorem pr_dp {K : PySem.W.Frag} {H : Hp} {x : V} {p : Nat × Nat} (h : FgV H x p) : Dp K H x (dPr p) := by
  obtain ⟨b, rfl, e⟩ := h
  exact .tup (SqT.of e) (.cons (.int _) (.cons (.int _) .nil))
theorem any_prs {ps : List (Nat × Nat)} {p : Nat × Nat} (h : p ∈ ps) : ((ps.map dPr).any fun z => PyData.eqv z (dPr p)) = true :=
  List.any_eq_true.mpr ⟨dPr p, List.mem_map.mpr ⟨p, h, rfl⟩, eqv_pr_self p⟩
theorem le_false {a b c d : Nat} (h : c < a ∨ (a = c ∧ d < b)) : Ob.lexAt (fun j => decide (([(a : Int), (b : Int)] : List Int).getD j 0 = ([(c : Int), (d : Int)] : List Int).getD j 0)) (fun j => decide (([(a : Int), (b : Int)] : List Int).getD j 0 ≤ ([(c : Int), (d : Int)] : List Int).getD j 0)) (decide (2 ≤ 2)) 0 (min 2 2) = false := by
  show Ob.lexAt _ _ _ 0 2 = _
  rw [Ob.lexAt_succ, Ob.lexAt_succ, Ob.lexAt_zero]
  show (if decide ((a : Int) = (c : Int)) = true then (if decide ((b : Int) = (d : Int)) = true then decide (2 ≤ 2) else decide ((b : Int) ≤ (d : Int))) else decide ((a : Int) ≤ (c : Int))) = _
  by_cases h1 : (a : Int) = (c : Int)
  · rw [decide_eq_true h1, if_pos rfl, decide_eq_false (show ¬ (b : Int) = (d : Int) by omega), if_neg Bool.false_ne_true, decide_eq_false (by omega)]
  · rw [decide_eq_false h1, if_neg Bool.false_ne_true, decide_eq_false (by omega)]
theorem arc_cost {M L : Nat} {S : Sty} {Z : List (List Nat)} {a b c : Nat} (h : (a, b, c) ∈ netQ M L S Z) : c = costQ M L S Z (atQ S Z a).2 (atQ S Z b) (natW S Z (atQ S Z a).1 (atQ S Z a).2 (atQ S Z b)) := by
  have hu := netQ_up _ h
  have h1 : a < b := hu.1
  have h2 : b < (posL S Z).length := hu.2
  obtain ⟨s, hs, e⟩ := (net_row (M := M) (L := L) (S := S) (Z := Z) (a := a) (by omega) (a, b, c)).mp ⟨h, rfl⟩
  have eb : b = a + 1 + s := (arcAt_is e).2
  subst eb
  rw [arcAt_eq (atQ_at (by omega)) (atQ_at h2)] at e
  split at e
  · have e := Option.some.inj e
    injection e with _ e
    injection e with _ e
    exact e.symm
  · cases e
theorem totN_pre {M L : Nat} {S : Sty} {Z : List (List Nat)} {ms xs : List Nat} : ∀ k, k < ms.length → totN M L S Z (ms ++ xs) k = totN M L S Z ms k
  | 0, _ => rfl
  | k + 1, h => by
    have e : ∀ j, j < ms.length → (ms ++ xs).getD j 0 = ms.getD j 0 := fun j hj => by
      rw [List.getD_eq_getElem?_getD, List.getD_eq_getElem?_getD, List.getElem?_append_left hj]
    show totN M L S Z (ms ++ xs) k + cstN M L S Z (ms ++ xs) k = totN M L S Z ms k + cstN M L S Z ms k
    rw [totN_pre k (by omega)]
    unfold cstN
    rw [e k (by omega), e (k + 1) h]
theorem tot_y {M L : Nat} {S : Sty} {Z : List (List Nat)} {f g : Nat → Option Nat} (B : Bd (· ∈ netQ M L S Z) f g) (dn : ∀ v u, g v = some u → u < v) : ∀ n v, v ≤ n → ∀ y, f v = some y → totN M L S Z (Rw g v).reverse ((Rw g v).reverse.length - 1) = y
  | n, 0, _, y, e => by
    rw [B.z.1] at e
    rw [Rw_none B.z.2, ← Option.some.inj e]; rfl
  | 0, v + 1, h, _, _ => absurd h (by omega)
  | n + 1, v + 1, h, y, e => by
    obtain ⟨u, c, x, h1, h2, h3, h4, _⟩ := B.s (v + 1) y (by omega) e
    have ih := tot_y B dn n u (by have := dn _ _ h1; omega) x h3
    obtain ⟨r, er⟩ := Rw_head g u
    have hl : (Rw g u).length = r.length + 1 := by rw [er]; rfl
    have hl2 : (Rw g u).reverse.length = r.length + 1 := by rw [List.length_reverse, hl]
    rw [Rw_some dn h1, List.reverse_cons, List.length_append, hl2]
    rw [hl2, Nat.add_sub_cancel] at ih
    show totN M L S Z ((Rw g u).reverse ++ [v + 1]) r.length + cstN M L S Z ((Rw g u).reverse ++ [v + 1]) r.length = y
    rw [totN_pre _ (by omega), ih]
    have ea : ((Rw g u).reverse ++ [v + 1]).getD r.length 0 = u := by
      rw [List.getD_eq_getElem?_getD, List.getElem?_append_left (by omega), ← List.getD_eq_getElem?_getD, rev_getD (by omega), hl, Nat.add_sub_cancel, Nat.sub_self, er]; rfl
    have eb : ((Rw g u).reverse ++ [v + 1]).getD (r.length + 1) 0 = v + 1 := by
      rw [List.getD_eq_getElem?_getD, List.getElem?_append_right (by omega), hl2, Nat.sub_self]; rfl
    unfold cstN
    rw [ea, eb, ← arc_cost h2, h4]
end Vf

set_option Elab.async false
set_option linter.all false
set_option maxRecDepth 100000
set_option maxHeartbeats 4000000
namespace Vf
open PySem PySem.Spec PyProof.Rows L2 TL LamX
theorem takesN0 {X : Cx} : L2N.Takes X (fun _ _ _ _ => False) := fun _ _ x => by
  obtain ⟨_, _, _, _, _, _, _, _, _, _, _, _, _, _, _, _, z⟩ := x
  exact z.elim
theorem huT {k : Nat} {A : Around} (r : Room k A) : A.units < cLine := by have := hu65 r; omega
section
variable {P : Program} {w : World} {K : PySem.W.Frag} {mg : Str → Option Value} {base : Heap}
def spToldT (Pt Pb : Addr) : Sp := fun vs H Q _ => ∃ (sa : Addr) (us : List V) (S : Sty) (Z : List (List Nat)) (M L : Nat) (f g : Nat → Option Nat), vs = [nV M, nV L, .ref sa] ∧ H sa = some (.tup us) ∧ LV (ShV S H) us Z ∧ WdsOk S Z ∧ (∀ z ∈ Z, WdOk z) ∧ 0 < Z.length ∧ (posL S Z).length ≤ 91 ∧ M ≤ 1000000 ∧ Tabs [(Pt, lamQ), (Pb, lamB)] H ∧ Bd (· ∈ netQ M L S Z) f g ∧
  ∀ H', ExtN H H' → Tabs [(Pt, lamQ), (Pb, lamB)] H' → Q (oN (f ((posL S Z).length - 1))) H'
theorem ok_toldT (T : Txt K mg) {c Pt : Addr} (hcode : T.d_least_lines.code = .ref c) (TB : TabB base mg c Pt) {Pb : Addr} (hne : Pt ≠ Pb) : FnOk P w K mg base CX0 8 T.a_law_told_total T.d_law_told_total ["_law_measure_here", "_law_ladder", "_law_shapes"] (spToldT Pt Pb) := by
  have G_least : FnOk P w K mg base (L2N.CX P w) 7 T.a_least_lines T.d_least_lines ["measure", "ladder", "shapes"] (spLeast Pt Pb T.c_TooWide) := ok_least T hcode TB hne
  have G_law_positions : FnOk P w K mg base CX0 1 T.a_law_positions T.d_law_positions ["_law_shapes"] spLPos := ok_lpos T
  have G_law_line_cost : FnOk P w K mg base CX0 3 T.a_law_line_cost T.d_law_line_cost ["_law_measure_here", "_law_ladder", "_law_shapes", "_law_start", "_law_end"] spLC := ok_lc T
  refine T.D_law_told_total.F.ok sc_law_told_total (fun vs H Q E h => ?_) (fun cdv A outer s H vs Q E hr h => ?_)
  · obtain ⟨_, _, _, _, _, _, _, _, rfl, _⟩ := h
    rfl
  · obtain ⟨sa, us, S, Z, M, L, f, g, rfl, es, lv, ok, h16, hz0, l91, hM, hT, bd, q⟩ := h
    have hr7 : Room 7 _ := hr.mono (by decide)
    have wf := way_of bd
    have dn := bd.dn fun a h => (netQ_up a h).1
    have hpos := pos_pos (S := S) (Z := Z)
    refine ⟨_, pss_cons (L2N.ps_try_many (tb := fun W => tAsg (tCallS (spLeast Pt Pb T.c_TooWide) (WE W) (tCons (tVar 0) (tCons (tVar 1) (tCons (tVar 2) tNil)))) (gName 3)) (l := [(.ref T.c_TooWide, fun _ _ _ => tRet (tC .non))]) (Wout := fun _ _ _ _ => False) rfl rfl takesN0
        (fun W pn xe tk _ => pss_one (ps_set (i := 3) sc_law_told_total.nd rfl (Or.inl rfl) (by exact (pe_callS G_least hr7 rfl T.D_least_lines.G T.D_least_lines.F.kp T.D_least_lines.B (fun σ => L2N.passAt tk σ) (by exact (pa_cons (pv 0) (pa_cons (pv 1) (pa_cons (pv 2) pa_nil))))))))
        (.cons ⟨rfl, by decide, Or.inl T.C_TooWide.G⟩ (fun a oe cls d pn hz hf => pss_one (ps_ret pe_non)) .nil))
      (pss_cons (ps_set (i := 4) sc_law_told_total.nd rfl (.inl rfl) (pe_call G_law_positions (hr.mono (by decide)) (by rfl) T.D_law_positions.G T.D_law_positions.F.kp T.D_law_positions.B .nil pass0 (pa_cons (pv 2) pa_nil)))
      (pss_cons (ps_set (i := 5) sc_law_told_total.nd rfl (.inl rfl) pe_int)
      (pss_cons (ps_if (pt_not (pt_val (pe_callB call_isi (by rfl) T.n_isinstance (by decide +kernel) (pa_cons (pv 3) (pa_cons (pe_bltn (v := .ty "tuple") (by rfl) T.n_tuple (by decide +kernel) rfl) pa_nil))))) (pss_one (ps_ret pe_str)) pss_nil)
      (pss_cons (ps_for PassesOwn.never rfl (pi_range1 (by rfl) T.n_range (pa_cons (pe_op op_sub (pe_callB call_len_seq (by rfl) T.n_len PySem.boot_len (pa_cons (pv 3) pa_nil)) pe_int) pa_nil)) (pg_name (i := 6) sc_law_told_total.nd rfl (.inl rfl)) (pss_cons (ps_if (PW.pt (pw_or (pt_cmpR (op_notInD (hu65 hr)) (pe_ix ix_tup (pv 3) (pv 6) (fun _ _ => rfl)) (pv 4) (by rfl)) (pw_or (pt_cmpR (op_notInD (hu65 hr)) (pe_ix ix_tup (pv 3) (pe_op op_add (pv 6) pe_int) (fun _ _ => rfl)) (pv 4) (by rfl)) (pw_or1 (pt_cmpR (op_leT (huT hr)) (pe_ix ix_tup (pv 3) (pe_op op_add (pv 6) pe_int) (fun _ _ => rfl)) (pe_ix ix_tup (pv 3) (pv 6) (fun _ _ => rfl)) (nomark _)))))) (pss_one (ps_ret pe_str)) pss_nil)
      (pss_cons (ps_set (i := 7) sc_law_told_total.nd rfl (.inl rfl) (pe_call G_law_line_cost (hr.mono (by decide)) (by rfl) T.D_law_line_cost.G T.D_law_line_cost.F.kp T.D_law_line_cost.B .nil pass0 (pa_cons (pv 0) (pa_cons (pv 1) (pa_cons (pv 2) (pa_cons (pe_ix ix_tup (pv 3) (pv 6) (fun _ _ => rfl)) (pa_cons (pe_ix ix_tup (pv 3) (pe_op op_add (pv 6) pe_int) (fun _ _ => rfl)) pa_nil)))))))
      (pss_cons (ps_if (pt_cmpR op_isN (pv 7) pe_non (nomark _)) (pss_one (ps_ret pe_str)) pss_nil)
      (pss_one (ps_set (i := 5) sc_law_told_total.nd rfl (.inl rfl) (pe_op op_add (pv 5) (pv 7))))))))
      (pss_cons (ps_set (i := 8) sc_law_told_total.nd rfl (.inl rfl) (pe_and (pe_cmpR op_gt (pe_callB call_len_seq (by rfl) T.n_len PySem.boot_len (pa_cons (pv 3) pa_nil)) pe_int (nomark _)) (pe_and (pe_cmpR (op_eqD (Room.units hr)) (pe_ix ix_tup (pv 3) pe_int (fun _ _ => rfl)) (pe_ix ix_list (pv 4) pe_int (fun _ _ => rfl)) (nomark _)) (pe_one (pe_cmpR (op_eqD (Room.units hr)) (pe_ix ix_tup (pv 3) (pe_un un_neg pe_int) (fun _ _ => rfl)) (pe_ix ix_list (pv 4) (pe_un un_neg pe_int) (fun _ _ => rfl)) (nomark _))))))
      (pss_one (ps_ret (pe_ifExp (pt_val (pv 8)) (pv 5) pe_str)))))))), ?_⟩
    refine ⟨_, rfl, _, rfl, _, rfl, sa, us, S, Z, M, L, f, g, rfl, es, lv, ok, l91, hM, hT, bd, fun y hf H1 p x1 T1 wv => ?_, fun hf H1 d x1 T1 hd => ?_⟩
    · have ty := tot_y bd dn _ _ (Nat.le_refl _) y hf
      have hfst := way_first bd hf
      generalize (Rw g ((posL S Z).length - 1)).reverse = ns at wf wv ty hfst
      have l1 := wf.pos
      have l2 := wf.len
      have llast := wf.last
      obtain ⟨pv, epl, lp⟩ := id wv
      have lpl := lp.1
      rw [List.length_map] at lpl
      have es1 := exT' x1 _ _ es
      have lv1 := lv.mono fun _ _ z => ShV.kt z (exT' x1)
      have hn2 : 2 ≤ (posL S Z).length := by
        have : 1 ≤ ((List.range Z.length).flatMap (rowL S Z)).length := by
          obtain ⟨m, hm⟩ : ∃ m, Z.length = m + 1 := ⟨Z.length - 1, by omega⟩
          rw [hm, List.range_succ_eq_map, List.flatMap_cons, List.length_append, row_len]
          omega
        unfold posL
        rw [List.length_append]
        show 2 ≤ _ + 1
        omega
      have lns : 2 ≤ ns.length := by
        rcases Nat.lt_or_ge ns.length 2 with h | h
        · have e1 : ns.length - 1 = 0 := by omega
          rw [e1, hfst] at llast
          omega
        · exact h
      refine ⟨_, rfl, sa, us, S, Z, rfl, .inl es1, lv1, ok, fun H2 pl ps k2 n2 e2 lq => ?_⟩
      have lqn := lq.1
      have epl2 := k2 _ _ epl
      refine ⟨_, rfl, _, _, .type "tuple", .type "tuple", true, rfl, .ty _, .base (.tup epl2), kit_ty (by decide +kernel), true, rfl, ?_⟩
      refine iteF ?_
      refine ⟨_, rfl, p, pv, rfl, .inr (SqT.of epl2), _, _, rfl, rfl, ((ns.length - 1 : Nat) : Int), congrArg (fun z => [V.int z]) (by omega), by omega, by omega, ?_⟩
      rw [Int.toNat_natCast]
      have hin : ∀ u, u < ns.length → ns.getD u 0 < (posL S Z).length := fun u hu => by
        rcases Nat.eq_zero_or_pos u with c | c
        · rw [c, hfst]; omega
        · obtain ⟨u0, rfl⟩ : ∃ u0, u = u0 + 1 := ⟨u - 1, by omega⟩
          exact (wf.asc u0 hu).2
      have hmem : ∀ u, u < ns.length → atQ S Z (ns.getD u 0) ∈ posL S Z := fun u hu => List.mem_of_getElem? (atQ_at (hin u hu))
      have ldp : ∀ {H' : Hp}, Same H2 H' → Dp K H' (.ref pl) (.list ((posL S Z).map dPr)) := fun k => .lst (SqL.of (k _ _ e2)) (dp_prs lqn fun i r hr => by
        obtain ⟨x, ex, fx⟩ := lq.2 i r hr
        exact ⟨x, ex, fx.kt (same_tup k)⟩)
      refine for_it walk_range (fun u σ' H' => ∃ (x6 x7 : Option V), σ' = [some (nV M), some (nV L), some (.ref sa), some (.ref p), some (.ref pl), some (nV (totN M L S Z ns u)), x6, x7, none] ∧ Same H2 H') ⟨none, none, rfl, Same.refl H2⟩ (fun _ _ _ _ _ => trivial) ?_ ?_
      · rintro u x0 σ' Ha H3 hu ⟨x6, x7, rfl, k3⟩ ⟨rfl, hx⟩
        have hx : x0 = nV u := by rw [hx]; exact int0 u
        subst hx
        have hu1 : u + 1 < ns.length := by omega
        have g1 := getD_map (f := atQ S Z) (xs := ns) (d := 0) (show u < ns.length by omega)
        have g2 := getD_map (f := atQ S Z) (xs := ns) (d := 0) hu1
        obtain ⟨z1, e1, b1, rfl, eb1⟩ := lp.2 _ _ g1
        obtain ⟨z2, e2', b2, rfl, eb2⟩ := lp.2 _ _ g2
        have two := wf.two u hu1
        have fit := wf.fit u hu1
        have m1 := hmem u (by omega)
        have m2 := hmem (u + 1) hu1
        have et : totN M L S Z ns (u + 1) = totN M L S Z ns u + cstN M L S Z ns u := rfl
        unfold cstN at et
        generalize atQ S Z (ns.getD u 0) = px at *
        generalize atQ S Z (ns.getD (u + 1) 0) = py at *
        have k23 := k2.trans k3
        have eb1 := k23 _ _ eb1
        have eb2 := k23 _ _ eb2
        have ep3 := k23 _ _ epl
        have d1 : FgV H3 (.ref b1) px := ⟨b1, rfl, eb1⟩
        have d2 : FgV H3 (.ref b2) py := ⟨b2, rfl, eb2⟩
        have eu1 : ((u : Int) + 1) = ((u + 1 : Nat) : Int) := rfl
        refine ifs_of (p := False ∨ (False ∨ False)) (or_one (fun R h => ⟨_, rfl, _, rfl, p, pv, _, _, rfl, rfl, SqT.of ep3, atI_nat e1, _, rfl, dPr px, _, pr_dp d1, ldp k3, pr_shaped _, lprs_shaped _, false, by rw [any_prs m1]; rfl, h⟩) (fun _ => or_one (fun R h => ⟨_, rfl, _, rfl, _, _, rfl, rfl, p, pv, _, _, rfl, rfl, SqT.of ep3, by rw [eu1]; exact atI_nat e2', _, rfl, dPr py, _, pr_dp d2, ldp k3, pr_shaped _, lprs_shaped _, false, by rw [any_prs m2]; rfl, h⟩) (fun _ R h => ⟨_, rfl, _, rfl, _, _, rfl, rfl, p, pv, _, _, rfl, rfl, SqT.of ep3, by rw [eu1]; exact atI_nat e2', _, rfl, _, rfl, p, pv, _, _, rfl, rfl, SqT.of ep3, atI_nat e1, b2, b1, [(py.1 : Int), (py.2 : Int)], [(px.1 : Int), (px.2 : Int)], rfl, rfl, SqT.of eb2, SqT.of eb1, false, ?_, h⟩))) (fun c => c.elim False.elim fun c => c.elim False.elim False.elim) (fun _ => ?_)
        · refine congrArg V.bl (le_false ?_)
          rcases two.2.2 with ⟨a, b, _⟩ | ⟨a, _⟩
          · exact .inr ⟨a.symm, b⟩
          · exact .inl a
        refine ⟨_, rfl, _, rfl, _, rfl, _, rfl, _, rfl, p, pv, _, _, rfl, rfl, SqT.of ep3, atI_nat e1, _, rfl, _, rfl, _, _, rfl, rfl, p, pv, _, _, rfl, rfl, SqT.of ep3, by rw [eu1]; exact atI_nat e2', sa, b1, b2, us, S, Z, M, L, px.1, px.2, py.1, py.2, rfl, .inl (k23 _ _ es1), lv1.mono fun _ _ z => ShV.kt z (same_tup k23), ok, h16, eb1, eb2, two.1, two.2.1, two.2.2, hM, fun H4 k4 => ?_⟩
        have fit : natW S Z px.1 px.2 (py.1, py.2) ≤ M := fit
        rw [if_pos fit]
        refine ⟨_, rfl, rfl, _, rfl, ?_⟩
        refine iteF ?_
        refine ⟨_, rfl, _, rfl, _, _, rfl, rfl, ?_⟩
        rw [et]
        exact ⟨_, _, rfl, k3.trans k4⟩
      · rintro σ' H3 ⟨x6, x7, rfl, k3⟩
        have k23 := k2.trans k3
        have ep3 := k23 _ _ epl
        have e23 := k3 _ _ e2
        have g1 := getD_map (f := atQ S Z) (xs := ns) (d := 0) (show 0 < ns.length by omega)
        have g2 := getD_map (f := atQ S Z) (xs := ns) (d := 0) (show ns.length - 1 < ns.length by omega)
        rw [hfst] at g1
        rw [llast] at g2
        obtain ⟨z1, e1, f1⟩ := lp.2 _ _ g1
        obtain ⟨z2, e2', f2⟩ := lp.2 _ _ g2
        have f1 := f1.kt (same_tup k23)
        have f2 := f2.kt (same_tup k23)
        obtain ⟨w1, c1, q1⟩ := lq.2 0 _ (atQ_at (S := S) (Z := Z) (show 0 < (posL S Z).length by omega))
        obtain ⟨w2, c2, q2⟩ := lq.2 ((posL S Z).length - 1) _ (atQ_at (S := S) (Z := Z) (show (posL S Z).length - 1 < (posL S Z).length by omega))
        have q1 := q1.kt (same_tup k3)
        have q2 := q2.kt (same_tup k3)
        refine ⟨_, rfl, p, pv, rfl, .inr (SqT.of ep3), _, _, rfl, rfl, true, bl_of (decide_eq_true (by omega)), ?_⟩
        refine ⟨_, rfl, p, pv, 0, _, rfl, rfl, SqT.of ep3, atI_nat (j := 0) e1, _, rfl, pl, ps, 0, _, rfl, rfl, SqL.of e23, atI_nat (j := 0) c1, _, _, pr_dp f1, pr_dp q1, pr_shaped _, pr_shaped _, true, congrArg V.bl (eqv_pr_self _), ?_⟩
        refine ⟨_, rfl, 1, rfl, p, pv, -1, _, rfl, rfl, SqT.of ep3, at_lastT (n := ns.length - 1) (by omega) e2', _, rfl, 1, rfl, pl, ps, -1, _, rfl, rfl, SqL.of e23, at_lastT (n := (posL S Z).length - 1) (by omega) c2, _, _, pr_dp f2, pr_dp q2, pr_shaped _, pr_shaped _, ?_⟩
        rw [eqv_pr_self]
        refine ⟨_, rfl, true, rfl, ?_⟩
        have hq := q H3 (x1.trans (ExtN.of k23)) (T1.ext k23)
        rw [hf] at hq
        rw [ty]
        exact ⟨_, rfl, hq⟩
    · refine ⟨true, T.y_TooWide, fun _ a ha => ?_, fun z => nomatch z⟩
      have hq := q H1 x1 T1
      rw [hf] at hq
      exact hq
end
end Vf

set_option Elab.async false
set_option linter.all false
set_option maxRecDepth 100000
set_option maxHeartbeats 4000000
namespace Vf
open PySem PySem.Spec PyProof.Rows L2 TL LamX
def psOf (n : Nat) (f : Nat → Option Nat) : List (Option Int) := (List.range n).map fun i => (f i).map fun x : Nat => (x : Int)
theorem psOf_at {n : Nat} {f : Nat → Option Nat} {i : Nat} (h : i < n) : pg (psOf n f) i = (f i).map fun x : Nat => (x : Int) := by
  unfold pg psOf
  rw [List.getD_eq_getElem?_getD, List.getElem?_map, List.getElem?_range h]; rfl
theorem psOf_ok {n : Nat} {as : List Arc} {f g : Nat → Option Nat} (B : Bd (· ∈ as) f g) (ok : NetOk n as) : paperOk n as ((f (n - 1)).map fun x : Nat => (x : Int)) (psOf n f) = true := by
  have hn := ok.1
  refine judge_good (by unfold psOf; rw [List.length_map, List.length_range]) (by rw [psOf_at (by omega), B.z.1]; rfl) (psOf_at (by omega)) fun j a e => ?_
  have hm := List.mem_of_getElem? e
  have hu := ok.2.2.2.1 a hm
  unfold arcBad
  rw [psOf_at (by omega), psOf_at (by omega)]
  cases e1 : f a.1 with
  | none => rfl
  | some x =>
    obtain ⟨y, e2, l⟩ := B.le (u := a.1) (v := a.2.1) (c := a.2.2) hm e1
    rw [e2]
    refine decide_eq_false ?_
    show ¬ ((x : Int) + (a.2.2 : Int) < (y : Int))
    omega
theorem tabs_kp {T : List (Addr × Str)} {d l : Addr} {H H' : Hp} (t : Tabs T H) (D : DI d l H) (k : Kp d H H') : Tabs T H' := fun p hp => by
  obtain ⟨_, _, i, b, s, c, _, h2⟩ := D
  obtain ⟨ps, h1, h3, h4⟩ := t p hp
  refine ⟨ps, k _ _ (fun z => by rw [z, h2] at h1; cases h1) h1, h3, fun pos cv hc => ?_⟩
  obtain ⟨c0, e1, e2⟩ := h4 pos cv hc
  exact ⟨c0, e1, k _ _ (fun z => by rw [z, h2] at e2; cases e2) e2⟩
def StyL (H : Hp) (v : V) (S : Sty) (L : Nat) : Prop := ∃ (a p : Addr) (wv cv bv : V) (ps : List V), v = .ref a ∧ H a = some (.tup [.int S.m, .int S.dp, .int S.cl, wv, cv, bv, .ref p]) ∧ RowsV H wv (rowsW S.W) ∧ RowsV H cv (rows2 S.C) ∧ RowsV H bv (rows2 S.B) ∧ H p = some (.tup (nV L :: ps))
theorem StyL.kt {H H' : Hp} {v : V} {S : Sty} {L : Nat} (h : StyL H v S L) (k : ∀ a xs, H a = some (.tup xs) → H' a = some (.tup xs)) : StyL H' v S L := by
  obtain ⟨a, p, wv, cv, bv, ps, e, h1, h2, h3, h4, h5⟩ := h
  exact ⟨a, p, wv, cv, bv, ps, e, k _ _ h1, h2.mono k, h3.mono k, h4.mono k, k _ _ h5⟩
theorem StyL.sty {H : Hp} {v : V} {S : Sty} {L : Nat} (h : StyL H v S L) : StyV H v S := by
  obtain ⟨a, p, wv, cv, bv, ps, e, h1, h2, h3, h4, h5⟩ := h
  exact ⟨a, wv, cv, bv, .ref p, e, h1, h2, h3, h4⟩
theorem styL_of {H : Hp} {v : V} {S : Sty} (h : StyV H v S) (k : PrS H v) : ∃ L, StyL H v S L := by
  obtain ⟨a, wv, cv, bv, pv, rfl, e1, r1, r2, r3⟩ := h
  obtain ⟨a', p, x1, x2, x3, x4, x5, x6, ps, ea, e2, e3, l5, _⟩ := k
  have ea : a = a' := by injection ea
  subst ea
  rw [e1] at e2
  have e2 := HO.tup.inj (Option.some.inj e2)
  injection e2 with _ e2
  injection e2 with _ e2
  injection e2 with _ e2
  injection e2 with _ e2
  injection e2 with _ e2
  injection e2 with _ e2
  injection e2 with e2 _
  subst e2
  cases ps with
  | nil => cases l5
  | cons L r => exact ⟨L, a, p, wv, cv, bv, _, rfl, e1, r1, r2, r3, e3⟩
theorem oN_oV (o : Option Nat) : oN o = oV (o.map fun x : Nat => (x : Int)) := by cases o <;> rfl
theorem lsO_ps (n : Nat) (f : Nat → Option Nat) : lsO n f = (psOf n f).map oV := by
  unfold lsO psOf
  rw [List.map_map]
  exact List.map_congr_left fun i _ => oN_oV (f i)
theorem eqv_o {H : Hp} (n : Nat) (o : Option Nat) : Eqv (n + 1) H (oN o) (oN o) := by
  cases o with
  | none => exact .inl (.inr (.inr ⟨rfl, rfl⟩))
  | some x => exact .inl (.inr (.inl ⟨_, rfl, rfl⟩))
theorem adj_kp {d l : Addr} {H H' : Hp} {x : V} {r : List (Nat × Nat)} (h : AdjV H x r) (D : DI d l H) (k : Kp d H H') : AdjV H' x r := by
  obtain ⟨b, vs, rfl, e, lv⟩ := h
  have kt := kpTup D k
  refine ⟨b, vs, rfl, k _ _ (fun z => ?_) e, lv.mono fun _ _ z => z.kt kt⟩
  obtain ⟨i, bb, s, c, _, ed⟩ := D.st
  rw [z, ed] at e
  have e := HO.lst.inj (Option.some.inj e)
  subst e
  obtain ⟨y, hy⟩ : ∃ y, r[1]? = some y := ⟨r[1]'(by rw [← lv.1]; exact (by simp : 1 < 5)), List.getElem?_eq_getElem _⟩
  obtain ⟨v, hv, w, hw, _⟩ := lv.2 1 y hy
  have hv := Option.some.inj hv
  rw [← hv] at hw
  cases hw
theorem rows_nd {d l R : Addr} {H : Hp} {rs : List V} {rr : List (List (Nat × Nat))} (e : H R = some (.lst rs)) (lv : LV (AdjV H) rs rr) (D : DI d l H) : R ≠ d := fun z => by
  obtain ⟨i, bb, s, c, _, ed⟩ := D.st
  rw [z, ed] at e
  have e := HO.lst.inj (Option.some.inj e)
  subst e
  obtain ⟨y, hy⟩ : ∃ y, rr[1]? = some y := ⟨rr[1]'(by rw [← lv.1]; exact (by simp : 1 < 5)), List.getElem?_eq_getElem _⟩
  obtain ⟨v, hv, w, _, hw, _⟩ := lv.2 1 y hy
  have hv := Option.some.inj hv
  rw [← hv] at hw
  cases hw
theorem tots_nd {d l R : Addr} {H : Hp} {ts : List Nat} (e : H R = some (.lst (ts.map nV))) (D : DI d l H) : R ≠ d := fun z => by
  obtain ⟨i, bb, s, c, _, ed⟩ := D.st
  rw [z, ed] at e
  have e := HO.lst.inj (Option.some.inj e)
  cases ts with
  | nil => cases e
  | cons t r =>
    injection e with e _
    cases e
theorem paper_low {as : List Arc} {f g : Nat → Option Nat} (B : Bd (· ∈ as) f g) (up : ∀ a ∈ as, a.1 < a.2.1) {ps : List (Option Int)} (h0 : pg ps 0 = some 0) (hb : ∀ a ∈ as, arcBad ps a = false) : ∀ n v, v ≤ n → ∀ y, f v = some y → ∃ x : Int, pg ps v = some x ∧ x ≤ y
  | n, 0, _, y, _ => ⟨0, h0, by omega⟩
  | 0, v + 1, h, _, _ => absurd h (by omega)
  | n + 1, v + 1, h, y, e => by
    obtain ⟨u, c, x, h1, h2, h3, h4, _⟩ := B.s (v + 1) y (by omega) e
    have hu : u < v + 1 := up _ h2
    obtain ⟨x0, e1, l1⟩ := paper_low B up h0 hb n u (by omega) x h3
    have := hb _ h2
    unfold arcBad at this
    rw [show ((u, v + 1, c) : Arc).1 = u from rfl, e1] at this
    have this : (match pg ps (v + 1) with | none => true | some y => decide (x0 + (c : Int) < y)) = false := this
    cases e2 : pg ps (v + 1) with
    | none => rw [e2] at this; cases this
    | some z =>
      rw [e2] at this
      have := of_decide_eq_false this
      exact ⟨z, rfl, by omega⟩
theorem paper_claim {n : Nat} {as : List Arc} {f g : Nat → Option Nat} (B : Bd (· ∈ as) f g) (up : ∀ a ∈ as, a.1 < a.2.1) {t : Option Int} {ps : List (Option Int)} (h : paperOk n as t ps = true) {y : Nat} (e : f (n - 1) = some y) : ∃ x : Int, t = some x ∧ x ≤ y := by
  unfold paperOk at h
  simp only [Bool.and_eq_true, decide_eq_true_eq, List.all_eq_true, Bool.not_eq_true'] at h
  obtain ⟨⟨⟨_, h2⟩, h3⟩, h4⟩ := h
  obtain ⟨x, e1, l⟩ := paper_low B up h2 h4 _ _ (Nat.le_refl _) y e
  exact ⟨x, by rw [← h3, e1], l⟩
theorem flat_bound {α β : Type} (F : α → List β) (k : Nat) : ∀ xs : List α, (∀ x ∈ xs, (F x).length ≤ k) → (xs.flatMap F).length ≤ xs.length * k
  | [], _ => Nat.zero_le _
  | x :: xs, h => by
    rw [List.flatMap_cons, List.length_append, List.length_cons, Nat.succ_mul]
    have h1 := h x List.mem_cons_self
    have h2 := flat_bound F k xs fun y hy => h y (List.mem_cons_of_mem _ hy)
    omega
theorem net_ok {M L : Nat} {S : Sty} {Z : List (List Nat)} (l91 : (posL S Z).length ≤ 91) : NetOk (posL S Z).length (netQ M L S Z) := by
  refine ⟨pos_pos, l91, ?_, fun a h => netQ_up a h, fun i => ?_⟩
  · have h := flat_bound (rowQ M L S Z) 91 (List.range ((posL S Z).length - 1)) fun x hx => by
      rw [List.mem_range] at hx
      have := rowQ_len (M := M) (L := L) (S := S) (Z := Z) (i := x) (by omega)
      omega
    rw [List.length_range] at h
    have h : (netQ M L S Z).length ≤ ((posL S Z).length - 1) * 91 := h
    have : ((posL S Z).length - 1) * 91 ≤ 90 * 91 := Nat.mul_le_mul_right 91 (by omega)
    omega
  · have := adjQ_len (M := M) (L := L) (S := S) (Z := Z) i
    exact Nat.le_trans (show ((netQ M L S Z).filterMap fun a => if a.1 = i then some a.2 else none).length ≤ (posL S Z).length - (i + 1) from this) (by omega)
theorem rows_ok {M L : Nat} {S : Sty} {Z : List (List Nat)} (l91 : (posL S Z).length ≤ 91) : RowsA (posL S Z).length (netQ M L S Z) :=
  ⟨pos_pos, l91, fun a h => netQ_up a h, fun v => by have := adjQ_len (M := M) (L := L) (S := S) (Z := Z) v; omega⟩
/-- what the loop over papers carries -/
structure Pq (d l R p Tt : Addr) (nt : V) (n : Nat) (as : List Arc) (f : Nat → Option Nat) (rs : List V) (ts : List Nat) (H : Hp) : Prop where
  D : DI d l H
  nt : NetV H nt n as
  p : H p = some (.tup ((psOf n f).map oV))
  R : H R = some (.lst rs)
  lv : LV (AdjV H) rs ((List.range n).map (adjT as))
  T : H Tt = some (.lst (ts.map nV))
theorem Pq.kp {d l R p Tt : Addr} {nt : V} {n : Nat} {as : List Arc} {f : Nat → Option Nat} {rs : List V} {ts : List Nat} {H H' : Hp} (h : Pq d l R p Tt nt n as f rs ts H) (D : DI d l H') (k : Kp d H H') : Pq d l R p Tt nt n as f rs ts H' :=
  have kt := kpTup h.D k
  ⟨D, h.nt.mono kt, kt _ _ h.p, k _ _ (rows_nd h.R h.lv h.D) h.R, h.lv.mono fun _ _ z => adj_kp z h.D k, k _ _ (tots_nd h.T h.D) h.T⟩
theorem Pq.same {d l R p Tt : Addr} {nt : V} {n : Nat} {as : List Arc} {f : Nat → Option Nat} {rs : List V} {ts : List Nat} {H H' : Hp} (h : Pq d l R p Tt nt n as f rs ts H) (k : Same H H') : Pq d l R p Tt nt n as f rs ts H' := h.kp (h.D.keep k) fun b o _ e => k b o e
theorem last_pg (ps : List (Option Int)) (h : ps ≠ []) : atI (ps.map oV) (((ps.map oV).length : Int) - 1) = some (oV (pg ps (ps.length - 1))) := by
  have hl : 0 < ps.length := List.length_pos_iff.mpr h
  rw [List.length_map, show ((ps.length : Int) - 1) = ((ps.length - 1 : Nat) : Int) by omega]
  exact atI_nat (pg_at (by omega))
end Vf

set_option Elab.async false
set_option linter.all false
set_option maxRecDepth 100000
set_option maxHeartbeats 4000000
namespace Vf
open PySem PySem.Spec PyProof.Rows L2 TL LamX
theorem ifs_orE {a b : TT} {s t : TS} {D : Ends} {σ : L2.St} {H : Hp} (I : Hp → Prop) (ha : ∀ R : Bool → Hp → Prop, (∀ H', I H' → R false H') → a σ H R) (J : Hp → Prop) (hb : ∀ H', I H' → ∀ R : Bool → Hp → Prop, (∀ H'', J H'' → R false H'') → b σ H' R) (h : ∀ H', J H' → t D σ H') : tIfS (tOr a b) s t D σ H :=
  ha _ fun H' i => hb H' i _ h
section
variable {P : Program} {w : World} {K : PySem.W.Frag} {mg : Str → Option Value} {base : Heap}
def spLaw (K : PySem.W.Frag) (Pt Pb : Addr) : Sp := fun vs H Q _ => ∃ (a : Addr) (ns : List Int), vs = [.ref a] ∧ SqL K H a (ns.map V.int) ∧ ns.length ≤ 63 ∧ Tabs [(Pt, lamQ), (Pb, lamB)] H ∧ ∀ H', Q (.bl true) H'
theorem ok_law (T : Txt K mg) {c Pt : Addr} (hcode : T.d_least_lines.code = .ref c) (TB : TabB base mg c Pt) {c2 Pb : Addr} (hcode2 : T.d_bounds_of.code = .ref c2) (TB2 : TabB base mg c2 Pb) (hne : Pt ≠ Pb) : FnOk P w K mg base CX0 9 T.a_law T.d_law ["_law_script"] (spLaw K Pt Pb) := by
  have G_law_begin : FnOk P w K mg base CX0 1 T.a_law_begin T.d_law_begin ["_law_script"] (spBegin K) := ok_begin T
  have G_law_draw : FnOk P w K mg base CX0 1 T.a_law_draw T.d_law_draw ["_law_d", "_law_many"] spDraw := ok_draw T
  have G_law_pick : FnOk P w K mg base CX0 2 T.a_law_pick T.d_law_pick ["_law_d", "_law_row"] (spPick K) := ok_pick T
  have G_law_drawn_words : FnOk P w K mg base CX0 3 T.a_law_drawn_words T.d_law_drawn_words ["_law_d"] spDw := ok_dw T
  have G_law_style_for : FnOk P w K mg base CX0 3 T.a_law_style_for T.d_law_style_for ["_law_d", "_law_words"] spStyleN := ok_style_n T
  have G_law_shape : FnOk P w K mg base CX0 2 T.a_law_shape T.d_law_shape ["_law_style", "_law_word"] spLawShape := ok_law_shape T
  have G_law_measure : FnOk P w K mg base CX0 3 T.a_law_measure T.d_law_measure ["_law_d", "_law_shapes"] spMeas := ok_meas T
  have G_law_arcs : FnOk P w K mg base CX0 4 T.a_law_arcs T.d_law_arcs ["_law_measure_here", "_law_ladder", "_law_shapes"] spLArcs := ok_larcs T
  have G_law_least_prices : FnOk P w K mg base CX0 1 T.a_law_least_prices T.d_law_least_prices ["_law_rows"] spLp := ok_lp T
  have G_line_net : FnOk P w K mg base CX0 4 T.a_line_net T.d_line_net ["measure", "ladder", "shapes"] spLNet := ok_line_net T
  have G_bounds_of : FnOk P w K mg base CX0 3 T.a_bounds_of T.d_bounds_of ["net"] (spBoundsOf Pt Pb) := ok_bounds_of T hcode2 TB2 hne
  have G_law_exact : FnOk P w K mg base CX0 3 T.a_law_exact T.d_law_exact ["_law_told", "_law_due"] (spExact 2) := ok_exact T 2
  have G_law_told_total : FnOk P w K mg base CX0 8 T.a_law_told_total T.d_law_told_total ["_law_measure_here", "_law_ladder", "_law_shapes"] (spToldT Pt Pb) := ok_toldT T hcode TB hne
  have G_judge_bounds : FnOk P w K mg base CX0 1 T.a_judge_bounds T.d_judge_bounds ["net", "total", "bounds"] (spJudge K) := ok_judge T
  have G_law_totals : FnOk P w K mg base CX0 1 T.a_law_totals T.d_law_totals ["_law_rows", "_law_least"] spTots := ok_tots T
  have G_law_bent_paper : FnOk P w K mg base CX0 3 T.a_law_bent_paper T.d_law_bent_paper ["_law_d", "_law_right"] spBent := ok_bent T
  have G_law_is_paper : FnOk P w K mg base CX0 1 T.a_law_is_paper T.d_law_is_paper ["_law_rows", "_law_total", "_law_paper"] spIsP := ok_isp T
  have G_law_shut_out : FnOk P w K mg base CX0 1 T.a_law_shut_out T.d_law_shut_out ["_law_claim", "_law_totals_here"] spShut := ok_shut T
  refine T.D_law.F.ok sc_law (fun vs H Q E h => ?_) (fun cdv A outer s H vs Q E hr h => ?_)
  · obtain ⟨a, ns, rfl, _⟩ := h
    rfl
  · obtain ⟨a, ns, rfl, hS, hl, hT, q⟩ := h
    refine ⟨_, (pss_cons (ps_set (i := 1) sc_law.nd rfl (.inl rfl) (pe_call G_law_begin (hr.mono (by decide)) (by rfl) T.D_law_begin.G T.D_law_begin.F.kp T.D_law_begin.B .nil pass0 (pa_cons (pv 0) pa_nil)))
      (pss_cons (ps_set (i := 2) sc_law.nd rfl (.inl rfl) (pe_call G_law_drawn_words (hr.mono (by decide)) (by rfl) T.D_law_drawn_words.G T.D_law_drawn_words.F.kp T.D_law_drawn_words.B .nil pass0 (pa_cons (pv 1) pa_nil)))
      (pss_cons (ps_set (i := 3) sc_law.nd rfl (.inr rfl) (pe_call G_law_style_for (hr.mono (by decide)) (by rfl) T.D_law_style_for.G T.D_law_style_for.F.kp T.D_law_style_for.B .nil pass0 (pa_cons (pv 1) (pa_cons (pv 2) pa_nil))))
      (pss_cons (ps_set (i := 4) sc_law.nd rfl (.inl rfl) (pe_callTy call_tuple_of (by rfl) T.n_tuple (by decide +kernel) (pa_cons (pe_lc (own := [("_law_word", 15)]) (g := gName 15) (tt := tYes) rfl sc_law.nd (pi_list (pv 2)) (blkOk_by (own := [("_law_word", 15)]) (N := ["_law_script", "_law_d", "_law_words", "_law_style", "_law_shapes", "_law_measure_here", "_law_rows", "_law_right", "_law_least", "_law_net", "_law_totals_here", "_law_k", "_law_paper", "_law_claim", "_law_told", "_law_word"]) (sc := (defScope s_law)) (by decide +kernel)) (fun _ _ _ _ _ => (pg_name (i := 15) sc_law.nd rfl (.inl rfl))) (fun _ _ _ _ _ => pts_nil) (fun _ _ _ _ _ => (pe_call G_law_shape (hr.mono (by decide)) (by rfl) T.D_law_shape.G T.D_law_shape.F.kp T.D_law_shape.B .nil pass0 (pa_cons (pv 3) (pa_cons (pv 15) pa_nil))))) pa_nil)))
      (pss_cons (ps_set (i := 5) sc_law.nd rfl (.inl rfl) (pe_call G_law_measure (hr.mono (by decide)) (by rfl) T.D_law_measure.G T.D_law_measure.F.kp T.D_law_measure.B .nil pass0 (pa_cons (pv 1) (pa_cons (pv 4) pa_nil))))
      (pss_cons (ps_set (i := 6) sc_law.nd rfl (.inl rfl) (pe_call G_law_arcs (hr.mono (by decide)) (by rfl) T.D_law_arcs.G T.D_law_arcs.F.kp T.D_law_arcs.B .nil pass0 (pa_cons (pv 5) (pa_cons (pe_ix ix_tup (pe_ix ix_tup (pv 3) pe_int (fun _ _ => rfl)) pe_int (fun _ _ => rfl)) (pa_cons (pv 4) pa_nil)))))
      (pss_cons (ps_set (i := 7) sc_law.nd rfl (.inl rfl) (pe_callTy call_tuple_of (by rfl) T.n_tuple (by decide +kernel) (pa_cons (pe_call G_law_least_prices (hr.mono (by decide)) (by rfl) T.D_law_least_prices.G T.D_law_least_prices.F.kp T.D_law_least_prices.B .nil pass0 (pa_cons (pv 6) pa_nil)) pa_nil)))
      (pss_cons (ps_set (i := 8) sc_law.nd rfl (.inl rfl) (pe_ix ix_tup (pv 7) (pe_op op_sub (pe_callB call_len_seq (by rfl) T.n_len PySem.boot_len (pa_cons (pv 7) pa_nil)) pe_int) (fun _ _ => rfl)))
      (pss_cons (ps_set (i := 9) sc_law.nd rfl (.inl rfl) (pe_call G_line_net (hr.mono (by decide)) (by rfl) T.D_line_net.G T.D_line_net.F.kp T.D_line_net.B .nil pass0 (pa_cons (pv 5) (pa_cons (pe_ix ix_tup (pe_ix ix_tup (pv 3) pe_int (fun _ _ => rfl)) pe_int (fun _ _ => rfl)) (pa_cons (pv 4) pa_nil)))))
      (pss_cons (ps_if (PW.pt (pw_or (pt_not (pt_val (pe_call G_law_exact (hr.mono (by decide)) (by rfl) T.D_law_exact.G T.D_law_exact.F.kp T.D_law_exact.B .nil pass0 (pa_cons (pe_call G_bounds_of (hr.mono (by decide)) (by rfl) T.D_bounds_of.G T.D_bounds_of.F.kp T.D_bounds_of.B .nil pass0 (pa_cons (pv 9) pa_nil)) (pa_cons (pv 7) pa_nil))))) (pw_or1 (pt_not (pt_val (pe_call G_law_exact (hr.mono (by decide)) (by rfl) T.D_law_exact.G T.D_law_exact.F.kp T.D_law_exact.B .nil pass0 (pa_cons (pe_call G_law_told_total (hr.mono (by decide)) (by rfl) T.D_law_told_total.G T.D_law_told_total.F.kp T.D_law_told_total.B .nil pass0 (pa_cons (pv 5) (pa_cons (pe_ix ix_tup (pe_ix ix_tup (pv 3) pe_int (fun _ _ => rfl)) pe_int (fun _ _ => rfl)) (pa_cons (pv 4) pa_nil)))) (pa_cons (pv 8) pa_nil)))))))) (pss_one (ps_ret pe_bl)) pss_nil)
      (pss_cons (ps_if (pt_cmpR op_notBl (pe_call G_judge_bounds (hr.mono (by decide)) (by rfl) T.D_judge_bounds.G T.D_judge_bounds.F.kp T.D_judge_bounds.B .nil pass0 (pa_cons (pv 9) (pa_cons (pv 8) (pa_cons (pv 7) pa_nil)))) pe_bl (nomark _)) (pss_one (ps_ret pe_bl)) pss_nil)
      (pss_cons (ps_set (i := 10) sc_law.nd rfl (.inl rfl) (pe_call G_law_totals (hr.mono (by decide)) (by rfl) T.D_law_totals.G T.D_law_totals.F.kp T.D_law_totals.B .nil pass0 (pa_cons (pv 6) (pa_cons (pv 8) pa_nil))))
      (pss_cons (ps_for PassesOwn.never rfl (pi_range1 (by rfl) T.n_range (pa_cons pe_int pa_nil)) (pg_name (i := 11) sc_law.nd rfl (.inl rfl)) (pss_cons (ps_set (i := 12) sc_law.nd rfl (.inl rfl) (pe_call G_law_bent_paper (hr.mono (by decide)) (by rfl) T.D_law_bent_paper.G T.D_law_bent_paper.F.kp T.D_law_bent_paper.B .nil pass0 (pa_cons (pv 1) (pa_cons (pv 7) pa_nil))))
      (pss_cons (ps_set (i := 13) sc_law.nd rfl (.inl rfl) (pe_ifExp (pt_truth (pv 12) (by intro _; rfl)) (pe_ix ix_tup (pv 12) (pe_op op_sub (pe_callB call_len_seq (by rfl) T.n_len PySem.boot_len (pa_cons (pv 12) pa_nil)) pe_int) (fun _ _ => rfl)) pe_non))
      (Evl.pss_cut (ps_if (pt_cmpR op_eq (pe_call G_law_draw (hr.mono (by decide)) (by rfl) T.D_law_draw.G T.D_law_draw.F.kp T.D_law_draw.B .nil pass0 (pa_cons (pv 1) (pa_cons pe_int pa_nil))) pe_int (nomark _)) (pss_one (ps_set (i := 13) sc_law.nd rfl (.inl rfl) (pe_call G_law_pick (hr.mono (by decide)) (by rfl) T.D_law_pick.G T.D_law_pick.F.kp T.D_law_pick.B .nil pass0 (pa_cons (pv 1) (pa_cons (pe_lst (pa_cons pe_non (pa_cons pe_int (pa_cons (pv 8) (pa_cons (pe_un un_neg pe_int) (pa_cons (pe_op op_add pe_int (pe_call G_law_draw (hr.mono (by decide)) (by rfl) T.D_law_draw.G T.D_law_draw.F.kp T.D_law_draw.B .nil pass0 (pa_cons (pv 1) (pa_cons pe_int pa_nil)))) pa_nil)))))) pa_nil))))) pss_nil)
      (pss_cons (ps_set (i := 14) sc_law.nd rfl (.inl rfl) (pe_call G_judge_bounds (hr.mono (by decide)) (by rfl) T.D_judge_bounds.G T.D_judge_bounds.F.kp T.D_judge_bounds.B .nil pass0 (pa_cons (pv 9) (pa_cons (pv 13) (pa_cons (pv 12) pa_nil)))))
      (pss_cons (ps_if (PW.pt (pw_or (pt_not (pt_val (pe_callB call_isi (by rfl) T.n_isinstance (by decide +kernel) (pa_cons (pv 14) (pa_cons (pe_bltn (v := .ty "bool") (by rfl) T.n_bool (by decide +kernel) rfl) pa_nil))))) (pw_or1 (pt_cmpR op_ne (pv 14) (pe_call G_law_is_paper (hr.mono (by decide)) (by rfl) T.D_law_is_paper.G T.D_law_is_paper.F.kp T.D_law_is_paper.B .nil pass0 (pa_cons (pv 6) (pa_cons (pv 13) (pa_cons (pv 12) pa_nil)))) (nomark _))))) (pss_one (ps_ret pe_bl)) pss_nil)
      (pss_one (ps_if (PW.pt (pw_and (pt_truth (pv 14) (by intro _; rfl)) (pw_and1 (pt_not (pt_val (pe_call G_law_shut_out (hr.mono (by decide)) (by rfl) T.D_law_shut_out.G T.D_law_shut_out.F.kp T.D_law_shut_out.B .nil pass0 (pa_cons (pv 13) (pa_cons (pv 10) pa_nil)))))))) (pss_one (ps_ret pe_bl)) pss_nil))))))))
      (pss_one (ps_ret (pe_cmpR op_isBl (pe_call G_judge_bounds (hr.mono (by decide)) (by rfl) T.D_judge_bounds.G T.D_judge_bounds.F.kp T.D_judge_bounds.B .nil pass0 (pa_cons (pv 9) (pa_cons (pv 8) (pa_cons (pv 7) pa_nil)))) pe_bl (nomark _))))))))))))))))), ?_⟩
    refine ⟨_, rfl, a, ns, rfl, hS, hl, fun H1 d l s1 D1 => ?_⟩
    refine ⟨_, rfl, d, l, rfl, D1, fun H2 W Z k2 D2 nW eW dw => ?_⟩
    have dW := D1.nd nW
    refine ⟨_, rfl, _, rfl, d, l, W, Z, rfl, D2, dW.1, eW, dw, fun H3 v S k3 D3 sv pv st => ?_⟩
    have eW3 := k3 _ _ dW.1 eW
    have T3 := tabs_kp (tabs_kp (hT.ext s1) D1 k2) D2 k3
    obtain ⟨L, sl⟩ := styL_of sv pv
    have wok := dw.wds st
    have l40 := wok.ln
    have l91 := posL_dw (S := S) dw
    refine ⟨_, rfl, W, rfl, ⟨_, SqL.of eW3⟩, fun Dd n1 => ?_⟩
    refine lc_it (walk_list (K := K) (a := W) (xs := Z.map sV)) (fun t H' => ∃ ts, H' Dd = some (.lst ts) ∧ LV (ShV S H') ts (Z.take t) ∧ Same H3 H') ⟨[], upd_same, LV.nil, same_upd (Same.refl H3) n1⟩ ?_ ?_ ?_
    · rintro t H' _ ⟨_, _, _, k⟩
      exact SqL.of (k _ _ eW3)
    · rintro t x Ha H4 ht ⟨ts, e4, lt, k4⟩ ⟨rfl, hx⟩
      rw [List.length_map] at ht
      rw [List.getElem?_map, wz_at ht] at hx
      have hx : sV (wz Z t) = x := Option.some.inj hx
      subst hx
      refine ⟨by kernel_rfl, _, by kernel_rfl, _, by kernel_rfl, v, S, wz Z t, rfl, sv.mono (same_tup k4), st, dw.wd _ (wz_mem ht), fun x H5 k5 tv => ?_⟩
      have e5 := k5 _ _ e4
      have ltl := lt.1
      rw [List.length_take] at ltl
      refine ⟨ts, e5, szN (by omega), ts ++ [x], upd_same, ?_, same_mut (k4.trans k5) n1⟩
      rw [show Z.take (t + 1) = Z.take t ++ [wz Z t] by rw [List.take_succ, wz_at ht]; rfl]
      exact LV.snoc (lt.mono fun _ _ z => ShV.kt z fun a xs e => kt_mut e5 _ _ (k5 _ _ e)) (ShV.kt tv (kt_mut e5))
    rintro H4 ⟨us, es, lv, k4⟩
    rw [List.length_map, List.take_length] at lv
    refine ⟨Dd, us, rfl, .inl ⟨SqL.of es, fun sa nsa => ?_⟩⟩
    have k4' := same_upd (o := .tup us) (Same.refl H4) nsa
    have esa : upd H4 sa (.tup us) sa = some (.tup us) := upd_same
    have nsd : sa ≠ d := ((D3.keep k4).nd nsa).1
    generalize upd H4 sa (.tup us) = H4' at k4' esa
    have k34 := k4.trans k4'
    have lv' := lv.mono fun _ _ z => ShV.kt z (same_tup k4')
    have D4 := D3.keep k34
    refine ⟨_, rfl, _, rfl, d, l, sa, us, S, Z, rfl, D4, nsd, esa, lv', wok, dw.wd, dw.l0, fun H5 M k5 D5 hM => ?_⟩
    have T5 := tabs_kp (T3.ext k34) D4 k5
    have sl5 := (sl.kt (same_tup k34)).kt (kpTup D4 k5)
    have esa5 := kpTup D4 k5 _ _ esa
    have lv5 := lv'.mono fun _ _ z => ShV.kt z (kpTup D4 k5)
    clear sl sv pv lv lv' es esa eW eW3 hT T3 hS
    have hM6 : M ≤ 1000000 := by omega
    obtain ⟨f, g, bd⟩ := netQ_bd (M := M) (L := L) (S := S) (Z := Z)
    have ra := rows_ok (M := M) (L := L) l91
    have nok := net_ok (M := M) (L := L) l91
    have hn1 := ra.n1
    have up : ∀ a ∈ netQ M L S Z, a.1 < a.2.1 := fun a h => (netQ_up a h).1
    have hwt := fun v (hv : v < (posL S Z).length) => net_wt' (M := M) (L := L) hv
    have psok := psOf_ok bd nok
    have psl : (psOf (posL S Z).length f).length = (posL S Z).length := by unfold psOf; rw [List.length_map, List.length_range]
    obtain ⟨va, vp, wv, cv, bv, pz, rfl, ea, _, _, _, ep⟩ := id sl5
    refine ⟨_, rfl, _, rfl, va, _, 6, _, rfl, rfl, SqT.of ea, rfl, vp, _, 0, _, rfl, rfl, SqT.of ep, atI_nat (j := 0) rfl, _, rfl, sa, us, S, Z, M, L, rfl, .inl esa5, lv5, wok, dw.wd, l91, hM6, fun H6 R rs k6 eR lR => ?_⟩
    refine ⟨_, rfl, R, rs, _, _, f, g, rfl, eR, lR, ra, bd, fun H7 Lp k7 eLp => ?_⟩
    refine ⟨Lp, _, rfl, .inl ⟨SqL.of eLp, fun p np => ?_⟩⟩
    rw [lsO_ps] at eLp
    have k8 := same_upd (o := .tup (lsO (posL S Z).length f)) (Same.refl H7) np
    have eP : upd H7 p (.tup (lsO (posL S Z).length f)) p = some (.tup ((psOf (posL S Z).length f).map oV)) := by rw [upd_same, lsO_ps]
    generalize upd H7 p (.tup (lsO (posL S Z).length f)) = H8 at k8 eP
    have k58 := (k6.trans k7).trans k8
    have hlast : oV (pg (psOf (posL S Z).length f) ((psOf (posL S Z).length f).length - 1)) = oN (f ((posL S Z).length - 1)) := by rw [psl, psOf_at (by omega), oN_oV]
    have lla := last_pg (psOf (posL S Z).length f) (fun z => by rw [z] at psl; have : 0 = (posL S Z).length := psl; omega)
    rw [hlast] at lla
    refine ⟨_, rfl, _, rfl, p, _, rfl, .inr (SqT.of eP), _, _, rfl, rfl, p, _, _, _, rfl, rfl, SqT.of eP, lla, ?_⟩
    have t58 := same_tup k58
    refine ⟨_, rfl, _, rfl, va, _, 6, _, rfl, rfl, SqT.of (t58 _ _ ea), rfl, vp, _, 0, _, rfl, rfl, SqT.of (t58 _ _ ep), atI_nat (j := 0) rfl, _, rfl, sa, us, S, Z, M, L, rfl, t58 _ _ esa5, lv5.mono fun _ _ z => ShV.kt z t58, wok, hM6, fun H9 nt nta nus k9 e1 e2 lN => ?_⟩
    have nv9 : NetV H9 (.ref nt) (posL S Z).length (netQ M L S Z) := ⟨nt, nta, nus, rfl, e1, e2, lN⟩
    have k59 := k58.trans k9
    have T9 := T5.ext k59
    have q9 : Pq d l R p p (.ref nt) (posL S Z).length (netQ M L S Z) f rs [] H9 → True := fun _ => trivial
    have D9 := D5.keep k59
    have eP9 := k9 _ _ eP
    have eR9 := ((k7.trans k8).trans k9) _ _ eR
    have lR9 := lR.mono fun _ _ z => z.same ((k7.trans k8).trans k9)
    dsimp only [tSeq, tNext, gName, tAsg]
    refine ifs_orE (fun H' => ExtN H9 H' ∧ Tabs [(Pt, lamQ), (Pb, lamB)] H') (fun R' h => ?_) (fun H' => ExtN H9 H' ∧ Tabs [(Pt, lamQ), (Pb, lamB)] H') (fun HA ⟨xA, TA⟩ R' h => ?_) (fun HB ⟨xB, TB'⟩ => ?_)
    · refine ⟨_, rfl, .ref nt, _, _, rfl, nv9, nok, T9, fun HA r f' g' xA TA er bd' => ?_⟩
      obtain ⟨rfl, rfl⟩ := bd_eq bd' bd up
      refine ⟨_, rfl, .ref r, .ref p, rfl, ?_, true, rfl, h HA ⟨xA, TA⟩⟩
      refine .inr ⟨r, p, _, _, rfl, rfl, er, exT' xA _ _ eP9, ?_, ?_, fun i x y hx hy => ?_⟩
      · rw [List.length_map, List.length_map, psl, List.length_range]
      · rw [List.length_map, List.length_range]; omega
      · have er2 : ((List.range (posL S Z).length).map fun i => oN (f' i)) = lsO (posL S Z).length f' := rfl
        rw [er2] at hx
        rw [← lsO_ps] at hy
        rw [hx] at hy
        have hy := Option.some.inj hy
        subst hy
        have hi : i < (posL S Z).length := by
          have := (List.getElem?_eq_some_iff.mp hx).1
          rw [lsO_len] at this
          exact this
        rw [lsO_at hi] at hx
        rw [← Option.some.inj hx]
        exact eqv_o 0 _
    · have tA := exT' xA
      have t5A : ∀ b xs, H5 b = some (.tup xs) → HA b = some (.tup xs) := fun b xs e => tA _ _ (k9 _ _ (t58 _ _ e))
      refine ⟨_, rfl, _, rfl, va, _, 6, _, rfl, rfl, SqT.of (t5A _ _ ea), rfl, vp, _, 0, _, rfl, rfl, SqT.of (t5A _ _ ep), atI_nat (j := 0) rfl, _, rfl, sa, us, S, Z, M, L, f, g, rfl, t5A _ _ esa5, lv5.mono fun _ _ z => ShV.kt z t5A, wok, dw.wd, dw.l0, l91, hM6, TA, bd, fun HB xB TB' => ?_⟩
      exact ⟨_, rfl, _, _, rfl, eqv_o 1 _, true, rfl, h HB ⟨xA.trans xB, TB'⟩⟩
    have tB := exT' xB
    have nvB := nv9.mono tB
    have eRB := exL' xB eR9
    have lRB : LV (AdjV HB) rs ((List.range (posL S Z).length).map (adjT (netQ M L S Z))) := lR9.mono fun _ _ z => by
      obtain ⟨b, vs, rfl, e, lv⟩ := z
      exact ⟨b, vs, rfl, exL' xB e, lv.mono fun _ _ z => z.kt tB⟩
    have DB : DI d l HB := by
      obtain ⟨ne, ⟨ns', e1⟩, i, b, s, c, h0, e2⟩ := D9
      exact ⟨ne, ⟨ns', exL' xB e1⟩, i, b, s, c, h0, exL' xB e2⟩
    have ePB := tB _ _ eP9
    clear nv9 k9 lR9 eR9 D9 eP9 T9 lla q9
    have hjv : [V.ref nt, oN (f ((posL S Z).length - 1)), V.ref p] = [V.ref nt, oV ((f ((posL S Z).length - 1)).map fun x : Nat => (x : Int)), V.ref p] := by rw [oN_oV]
    refine ⟨_, rfl, _, rfl, _, rfl, ⟨.ref nt, p, _, _, _, psOf (posL S Z).length f, hjv, nvB, nok, SqT.of ePB, ?_⟩⟩
    rw [psok]
    refine ⟨true, true, rfl, rfl, false, rfl, ?_⟩
    refine iteF ?_
    refine ⟨_, rfl, _, rfl, R, rs, _, _, f, g, rfl, eRB, lRB, ra, hwt, bd, fun HC Tt ts kC eT gT lT => ?_⟩
    have qC : Pq d l R p Tt (.ref nt) (posL S Z).length (netQ M L S Z) f rs ts HC := ⟨DB.keep kC, nvB.mono (same_tup kC), kC _ _ ePB, kC _ _ eRB, lRB.mono fun _ _ z => z.same kC, eT⟩
    refine ⟨10, rfl, by decide, by decide, ?_⟩
    refine for_it walk_range (fun u σ' H' => ∃ (x11 x12 x13 x14 x15 : Option V), σ' = [some (.ref a), some (.ref d), some (.ref W), some (.ref va), some (.ref sa), some (nV M), some (.ref R), some (.ref p), some (oN (f ((posL S Z).length - 1))), some (.ref nt), some (.ref Tt), x11, x12, x13, x14, x15] ∧ Pq d l R p Tt (.ref nt) (posL S Z).length (netQ M L S Z) f rs ts H') ⟨_, _, _, _, _, rfl, qC⟩ (fun _ _ _ _ _ => trivial) ?_ ?_
    · rintro u x σ' Ha HD hu ⟨x11, x12, x13, x14, x15, rfl, qD⟩ ⟨rfl, hx⟩
      clear hx
      refine ⟨_, rfl, _, rfl, d, l, p, _, rfl, qD.D, qD.p, by rw [psl]; omega, by rw [psl]; omega, fun HE b ps' kE DE eb lps => ?_⟩
      have qE := qD.kp DE kE
      dsimp only [tSeq, tNext, gName, tAsg]
      refine if_one (p := ¬ ps' = []) (x := oV (pg ps' (ps'.length - 1))) (fun R' h => ⟨_, rfl, _, .inr (.inl ⟨_, SqT.of eb, ?_⟩), h⟩) (fun c R' h => ?_) (fun c R' h => ?_) ?_
      · cases ps' <;> simp
      · exact ⟨_, rfl, _, rfl, b, _, rfl, .inr (SqT.of eb), _, _, rfl, rfl, b, _, _, _, rfl, rfl, SqT.of eb, last_pg ps' c, h⟩
      · have c : ps' = [] := Decidable.byContradiction c
        rw [c] at h
        exact h
      refine ⟨fun σ' H' => ∃ t : Option Int, σ' = [some (.ref a), some (.ref d), some (.ref W), some (.ref va), some (.ref sa), some (nV M), some (.ref R), some (.ref p), some (oN (f ((posL S Z).length - 1))), some (.ref nt), some (.ref Tt), some x, some (.ref b), some (oV t), x14, x15] ∧ Pq d l R p Tt (.ref nt) (posL S Z).length (netQ M L S Z) f rs ts H' ∧ H' b = some (.tup (ps'.map oV)), ?_, ?_⟩
      · refine ⟨_, rfl, d, l, 5, rfl, DE, by decide, fun HF r5 kF DF _ _ => ?_⟩
        have qF := qE.kp DF kF
        have eb := kpTup DE kF _ _ eb
        refine ⟨rfl, _, rfl, ?_⟩
        refine ifD (fun c => ?_) (fun c => ⟨_, rfl, qF, eb⟩)
        refine ⟨_, rfl, _, rfl, 1, rfl, _, rfl, d, l, 100, rfl, DF, by decide, fun HG r100 kG DG _ _ => ?_⟩
        have qG := qF.kp DG kG
        have eb := kpTup DF kG _ _ eb
        refine ⟨_, _, rfl, rfl, by show 5 ≤ sizeLine; decide, fun pk npk => ?_⟩
        have npk' := DG.nd npk
        refine ⟨d, l, _, _, rfl, DG.new npk, .inl ⟨pk, rfl, npk'.1, SqL.of upd_same⟩, by simp, by simp, fun HI sh kI DI' hs => ?_⟩
        have kGI : Kp d HG HI := (Kp.refl d _).new npk |>.trans kI
        obtain ⟨t, rfl⟩ : ∃ t : Option Int, sh = oV t := by
          simp only [List.mem_cons, List.not_mem_nil, or_false] at hs
          rcases hs with rfl | rfl | rfl | rfl | rfl
          · exact ⟨none, rfl⟩
          · exact ⟨some 0, rfl⟩
          · exact ⟨_, oN_oV _⟩
          · exact ⟨some _, rfl⟩
          · exact ⟨some _, rfl⟩
        exact ⟨t, rfl, qG.kp DI' kGI, kpTup DG kGI _ _ eb⟩
      rintro σ' HF ⟨t, rfl, qF, eb⟩
      refine ⟨_, rfl, _, rfl, _, rfl, .ref nt, b, _, _, t, ps', rfl, qF.nt, nok, SqT.of eb, ?_⟩
      generalize hpk : paperOk (posL S Z).length (netQ M L S Z) t ps' = ok
      dsimp only [tSeq, tNext, gName, tAsg]
      refine ifs_of (p := False ∨ False) (or_one (fun R' h => ⟨_, rfl, _, _, .type "bool", .type "bool", true, rfl, .ty _, .base (.bl _), kit_ty (by decide +kernel), true, rfl, h⟩) (fun _ R' h => ⟨_, rfl, _, rfl, _, rfl, _, rfl, R, b, rs, _, _, t, ps', rfl, qF.R, qF.lv, ra, eb, by omega, rfl, false, ?_, h⟩)) (fun c => c.elim False.elim False.elim) (fun _ => ?_)
      · rw [hpk]
        exact congrArg V.bl (not_dec' rfl)
      cases ok with
      | false =>
        refine ⟨_, rfl, false, rfl, ?_⟩
        exact ⟨_, _, _, _, _, rfl, qF⟩
      | true =>
        refine ⟨_, rfl, true, rfl, ?_⟩
        refine ⟨_, rfl, _, rfl, Tt, t, ts, rfl, qF.T, lT, fun z hz => ?_, fun HG kG => ?_⟩
        · obtain ⟨y, hy, ly⟩ := gT z hz
          obtain ⟨x, hx, lx⟩ := paper_claim bd up hpk hy
          exact ⟨x, hx, by omega⟩
        · refine ⟨true, rfl, ?_⟩
          exact ⟨_, _, _, _, _, rfl, qF.same kG⟩
    · rintro σ' HD ⟨x11, x12, x13, x14, x15, rfl, qD⟩
      refine ⟨_, rfl, _, rfl, _, rfl, ⟨.ref nt, p, _, _, _, psOf (posL S Z).length f, hjv, qD.nt, nok, SqT.of qD.p, ?_⟩⟩
      rw [psok]
      exact ⟨true, true, rfl, rfl, q HD⟩
end
theorem all_mk {l : PySem.W.OpenLaw} {w : World} {K : PySem.W.Frag} {h : Heap} {mg : Str → Option Value} {fa : Addr} (X : K.In h) (G : h.Ns mainGlobals mg) (hfa : mg "law" = some (.ref fa))
    {f_bounds_of : Addr} {od_bounds_of an_bounds_of : Option Addr} {sl_bounds_of : Array (Option Value)} {oc_bounds_of kV_bounds_of dc_bounds_of pm_bounds_of cd_bounds_of ct_bounds_of : Value}
    (a_bounds_of : PySem.W.nsIn K mainGlobals "bounds_of" = some (some (.ref f_bounds_of))) (l_bounds_of : K.lookup f_bounds_of = some ⟨oc_bounds_of, od_bounds_of, .func (PySem.W.fnOf "bounds_of" "bounds_of" (defArgs s_bounds_of) (defBody s_bounds_of) (defScope s_bounds_of) .none kV_bounds_of dc_bounds_of pm_bounds_of an_bounds_of cd_bounds_of ct_bounds_of), sl_bounds_of⟩) (c_bounds_of : PySem.W.codeIn K cd_bounds_of "bounds_of" = true) (k_bounds_of : PySem.W.keepIn K (.ref f_bounds_of) = true)
    {f_judge_bounds : Addr} {od_judge_bounds an_judge_bounds : Option Addr} {sl_judge_bounds : Array (Option Value)} {oc_judge_bounds kV_judge_bounds dc_judge_bounds pm_judge_bounds cd_judge_bounds ct_judge_bounds : Value}
    (a_judge_bounds : PySem.W.nsIn K mainGlobals "judge_bounds" = some (some (.ref f_judge_bounds))) (l_judge_bounds : K.lookup f_judge_bounds = some ⟨oc_judge_bounds, od_judge_bounds, .func (PySem.W.fnOf "judge_bounds" "judge_bounds" (defArgs s_judge_bounds) (defBody s_judge_bounds) (defScope s_judge_bounds) .none kV_judge_bounds dc_judge_bounds pm_judge_bounds an_judge_bounds cd_judge_bounds ct_judge_bounds), sl_judge_bounds⟩) (c_judge_bounds : PySem.W.codeIn K cd_judge_bounds "judge_bounds" = true) (k_judge_bounds : PySem.W.keepIn K (.ref f_judge_bounds) = true)
    {f_least_way_along : Addr} {od_least_way_along an_least_way_along : Option Addr} {sl_least_way_along : Array (Option Value)} {oc_least_way_along kV_least_way_along dc_least_way_along pm_least_way_along cd_least_way_along ct_least_way_along : Value}
    (a_least_way_along : PySem.W.nsIn K mainGlobals "least_way_along" = some (some (.ref f_least_way_along))) (l_least_way_along : K.lookup f_least_way_along = some ⟨oc_least_way_along, od_least_way_along, .func (PySem.W.fnOf "least_way_along" "least_way_along" (defArgs s_least_way_along) (defBody s_least_way_along) (defScope s_least_way_along) .none kV_least_way_along dc_least_way_along pm_least_way_along an_least_way_along cd_least_way_along ct_least_way_along), sl_least_way_along⟩) (c_least_way_along : PySem.W.codeIn K cd_least_way_along "least_way_along" = true) (k_least_way_along : PySem.W.keepIn K (.ref f_least_way_along) = true)
    {f_leading : Addr} {od_leading an_leading : Option Addr} {sl_leading : Array (Option Value)} {oc_leading kV_leading dc_leading pm_leading cd_leading ct_leading : Value}
    (a_leading : PySem.W.nsIn K mainGlobals "_leading" = some (some (.ref f_leading))) (l_leading : K.lookup f_leading = some ⟨oc_leading, od_leading, .func (PySem.W.fnOf "_leading" "_leading" (defArgs s_leading) (defBody s_leading) (defScope s_leading) .none kV_leading dc_leading pm_leading an_leading cd_leading ct_leading), sl_leading⟩) (c_leading : PySem.W.codeIn K cd_leading "_leading" = true) (k_leading : PySem.W.keepIn K (.ref f_leading) = true)
    {f_bounds_and_tails : Addr} {od_bounds_and_tails an_bounds_and_tails : Option Addr} {sl_bounds_and_tails : Array (Option Value)} {oc_bounds_and_tails kV_bounds_and_tails dc_bounds_and_tails pm_bounds_and_tails cd_bounds_and_tails ct_bounds_and_tails : Value}
    (a_bounds_and_tails : PySem.W.nsIn K mainGlobals "_bounds_and_tails" = some (some (.ref f_bounds_and_tails))) (l_bounds_and_tails : K.lookup f_bounds_and_tails = some ⟨oc_bounds_and_tails, od_bounds_and_tails, .func (PySem.W.fnOf "_bounds_and_tails" "_bounds_and_tails" (defArgs s_bounds_and_tails) (defBody s_bounds_and_tails) (defScope s_bounds_and_tails) .none kV_bounds_and_tails dc_bounds_and_tails pm_bounds_and_tails an_bounds_and_tails cd_bounds_and_tails ct_bounds_and_tails), sl_bounds_and_tails⟩) (c_bounds_and_tails : PySem.W.codeIn K cd_bounds_and_tails "_bounds_and_tails" = true) (k_bounds_and_tails : PySem.W.keepIn K (.ref f_bounds_and_tails) = true)
    {f_piece_width : Addr} {od_piece_width an_piece_width : Option Addr} {sl_piece_width : Array (Option Value)} {oc_piece_width kV_piece_width dc_piece_width pm_piece_width cd_piece_width ct_piece_width : Value}
    (a_piece_width : PySem.W.nsIn K mainGlobals "piece_width" = some (some (.ref f_piece_width))) (l_piece_width : K.lookup f_piece_width = some ⟨oc_piece_width, od_piece_width, .func (PySem.W.fnOf "piece_width" "piece_width" (defArgs s_piece_width) (defBody s_piece_width) (defScope s_piece_width) .none kV_piece_width dc_piece_width pm_piece_width an_piece_width cd_piece_width ct_piece_width), sl_piece_width⟩) (c_piece_width : PySem.W.codeIn K cd_piece_width "piece_width" = true) (k_piece_width : PySem.W.keepIn K (.ref f_piece_width) = true)
    {f_positions : Addr} {od_positions an_positions : Option Addr} {sl_positions : Array (Option Value)} {oc_positions kV_positions dc_positions pm_positions cd_positions ct_positions : Value}
    (a_positions : PySem.W.nsIn K mainGlobals "positions" = some (some (.ref f_positions))) (l_positions : K.lookup f_positions = some ⟨oc_positions, od_positions, .func (PySem.W.fnOf "positions" "positions" (defArgs s_positions) (defBody s_positions) (defScope s_positions) .none kV_positions dc_positions pm_positions an_positions cd_positions ct_positions), sl_positions⟩) (c_positions : PySem.W.codeIn K cd_positions "positions" = true) (k_positions : PySem.W.keepIn K (.ref f_positions) = true)
    {f_line_net : Addr} {od_line_net an_line_net : Option Addr} {sl_line_net : Array (Option Value)} {oc_line_net kV_line_net dc_line_net pm_line_net cd_line_net ct_line_net : Value}
    (a_line_net : PySem.W.nsIn K mainGlobals "line_net" = some (some (.ref f_line_net))) (l_line_net : K.lookup f_line_net = some ⟨oc_line_net, od_line_net, .func (PySem.W.fnOf "line_net" "line_net" (defArgs s_line_net) (defBody s_line_net) (defScope s_line_net) .none kV_line_net dc_line_net pm_line_net an_line_net cd_line_net ct_line_net), sl_line_net⟩) (c_line_net : PySem.W.codeIn K cd_line_net "line_net" = true) (k_line_net : PySem.W.keepIn K (.ref f_line_net) = true)
    {f_least_lines : Addr} {od_least_lines an_least_lines : Option Addr} {sl_least_lines : Array (Option Value)} {oc_least_lines kV_least_lines dc_least_lines pm_least_lines cd_least_lines ct_least_lines : Value}
    (a_least_lines : PySem.W.nsIn K mainGlobals "least_lines" = some (some (.ref f_least_lines))) (l_least_lines : K.lookup f_least_lines = some ⟨oc_least_lines, od_least_lines, .func (PySem.W.fnOf "least_lines" "least_lines" (defArgs s_least_lines) (defBody s_least_lines) (defScope s_least_lines) .none kV_least_lines dc_least_lines pm_least_lines an_least_lines cd_least_lines ct_least_lines), sl_least_lines⟩) (c_least_lines : PySem.W.codeIn K cd_least_lines "least_lines" = true) (k_least_lines : PySem.W.keepIn K (.ref f_least_lines) = true)
    {f_lines_from : Addr} {od_lines_from an_lines_from : Option Addr} {sl_lines_from : Array (Option Value)} {oc_lines_from kV_lines_from dc_lines_from pm_lines_from cd_lines_from ct_lines_from : Value}
    (a_lines_from : PySem.W.nsIn K mainGlobals "_lines_from" = some (some (.ref f_lines_from))) (l_lines_from : K.lookup f_lines_from = some ⟨oc_lines_from, od_lines_from, .func (PySem.W.fnOf "_lines_from" "_lines_from" (defArgs s_lines_from) (defBody s_lines_from) (defScope s_lines_from) .none kV_lines_from dc_lines_from pm_lines_from an_lines_from cd_lines_from ct_lines_from), sl_lines_from⟩) (c_lines_from : PySem.W.codeIn K cd_lines_from "_lines_from" = true) (k_lines_from : PySem.W.keepIn K (.ref f_lines_from) = true)
    {f_ends_from : Addr} {od_ends_from an_ends_from : Option Addr} {sl_ends_from : Array (Option Value)} {oc_ends_from kV_ends_from dc_ends_from pm_ends_from cd_ends_from ct_ends_from : Value}
    (a_ends_from : PySem.W.nsIn K mainGlobals "_ends_from" = some (some (.ref f_ends_from))) (l_ends_from : K.lookup f_ends_from = some ⟨oc_ends_from, od_ends_from, .func (PySem.W.fnOf "_ends_from" "_ends_from" (defArgs s_ends_from) (defBody s_ends_from) (defScope s_ends_from) .none kV_ends_from dc_ends_from pm_ends_from an_ends_from cd_ends_from ct_ends_from), sl_ends_from⟩) (c_ends_from : PySem.W.codeIn K cd_ends_from "_ends_from" = true) (k_ends_from : PySem.W.keepIn K (.ref f_ends_from) = true)
    {f_cost : Addr} {od_cost an_cost : Option Addr} {sl_cost : Array (Option Value)} {oc_cost kV_cost dc_cost pm_cost cd_cost ct_cost : Value}
    (a_cost : PySem.W.nsIn K mainGlobals "_cost" = some (some (.ref f_cost))) (l_cost : K.lookup f_cost = some ⟨oc_cost, od_cost, .func (PySem.W.fnOf "_cost" "_cost" (defArgs s_cost) (defBody s_cost) (defScope s_cost) .none kV_cost dc_cost pm_cost an_cost cd_cost ct_cost), sl_cost⟩) (c_cost : PySem.W.codeIn K cd_cost "_cost" = true) (k_cost : PySem.W.keepIn K (.ref f_cost) = true)
    {f_law_begin : Addr} {od_law_begin an_law_begin : Option Addr} {sl_law_begin : Array (Option Value)} {oc_law_begin kV_law_begin dc_law_begin pm_law_begin cd_law_begin ct_law_begin : Value}
    (a_law_begin : PySem.W.nsIn K mainGlobals "_law_begin" = some (some (.ref f_law_begin))) (l_law_begin : K.lookup f_law_begin = some ⟨oc_law_begin, od_law_begin, .func (PySem.W.fnOf "_law_begin" "_law_begin" (defArgs s_law_begin) (defBody s_law_begin) (defScope s_law_begin) .none kV_law_begin dc_law_begin pm_law_begin an_law_begin cd_law_begin ct_law_begin), sl_law_begin⟩) (c_law_begin : PySem.W.codeIn K cd_law_begin "_law_begin" = true) (k_law_begin : PySem.W.keepIn K (.ref f_law_begin) = true)
    {f_law_draw : Addr} {od_law_draw an_law_draw : Option Addr} {sl_law_draw : Array (Option Value)} {oc_law_draw kV_law_draw dc_law_draw pm_law_draw cd_law_draw ct_law_draw : Value}
    (a_law_draw : PySem.W.nsIn K mainGlobals "_law_draw" = some (some (.ref f_law_draw))) (l_law_draw : K.lookup f_law_draw = some ⟨oc_law_draw, od_law_draw, .func (PySem.W.fnOf "_law_draw" "_law_draw" (defArgs s_law_draw) (defBody s_law_draw) (defScope s_law_draw) .none kV_law_draw dc_law_draw pm_law_draw an_law_draw cd_law_draw ct_law_draw), sl_law_draw⟩) (c_law_draw : PySem.W.codeIn K cd_law_draw "_law_draw" = true) (k_law_draw : PySem.W.keepIn K (.ref f_law_draw) = true)
    {f_law_pick : Addr} {od_law_pick an_law_pick : Option Addr} {sl_law_pick : Array (Option Value)} {oc_law_pick kV_law_pick dc_law_pick pm_law_pick cd_law_pick ct_law_pick : Value}
    (a_law_pick : PySem.W.nsIn K mainGlobals "_law_pick" = some (some (.ref f_law_pick))) (l_law_pick : K.lookup f_law_pick = some ⟨oc_law_pick, od_law_pick, .func (PySem.W.fnOf "_law_pick" "_law_pick" (defArgs s_law_pick) (defBody s_law_pick) (defScope s_law_pick) .none kV_law_pick dc_law_pick pm_law_pick an_law_pick cd_law_pick ct_law_pick), sl_law_pick⟩) (c_law_pick : PySem.W.codeIn K cd_law_pick "_law_pick" = true) (k_law_pick : PySem.W.keepIn K (.ref f_law_pick) = true)
    {f_law_rare : Addr} {od_law_rare an_law_rare : Option Addr} {sl_law_rare : Array (Option Value)} {oc_law_rare kV_law_rare dc_law_rare pm_law_rare cd_law_rare ct_law_rare : Value}
    (a_law_rare : PySem.W.nsIn K mainGlobals "_law_rare" = some (some (.ref f_law_rare))) (l_law_rare : K.lookup f_law_rare = some ⟨oc_law_rare, od_law_rare, .func (PySem.W.fnOf "_law_rare" "_law_rare" (defArgs s_law_rare) (defBody s_law_rare) (defScope s_law_rare) .none kV_law_rare dc_law_rare pm_law_rare an_law_rare cd_law_rare ct_law_rare), sl_law_rare⟩) (c_law_rare : PySem.W.codeIn K cd_law_rare "_law_rare" = true) (k_law_rare : PySem.W.keepIn K (.ref f_law_rare) = true)
    {f_law_piece : Addr} {od_law_piece an_law_piece : Option Addr} {sl_law_piece : Array (Option Value)} {oc_law_piece kV_law_piece dc_law_piece pm_law_piece cd_law_piece ct_law_piece : Value}
    (a_law_piece : PySem.W.nsIn K mainGlobals "_law_piece" = some (some (.ref f_law_piece))) (l_law_piece : K.lookup f_law_piece = some ⟨oc_law_piece, od_law_piece, .func (PySem.W.fnOf "_law_piece" "_law_piece" (defArgs s_law_piece) (defBody s_law_piece) (defScope s_law_piece) .none kV_law_piece dc_law_piece pm_law_piece an_law_piece cd_law_piece ct_law_piece), sl_law_piece⟩) (c_law_piece : PySem.W.codeIn K cd_law_piece "_law_piece" = true) (k_law_piece : PySem.W.keepIn K (.ref f_law_piece) = true)
    {f_law_places : Addr} {od_law_places an_law_places : Option Addr} {sl_law_places : Array (Option Value)} {oc_law_places kV_law_places dc_law_places pm_law_places cd_law_places ct_law_places : Value}
    (a_law_places : PySem.W.nsIn K mainGlobals "_law_places" = some (some (.ref f_law_places))) (l_law_places : K.lookup f_law_places = some ⟨oc_law_places, od_law_places, .func (PySem.W.fnOf "_law_places" "_law_places" (defArgs s_law_places) (defBody s_law_places) (defScope s_law_places) .none kV_law_places dc_law_places pm_law_places an_law_places cd_law_places ct_law_places), sl_law_places⟩) (c_law_places : PySem.W.codeIn K cd_law_places "_law_places" = true) (k_law_places : PySem.W.keepIn K (.ref f_law_places) = true)
    {f_law_shape : Addr} {od_law_shape an_law_shape : Option Addr} {sl_law_shape : Array (Option Value)} {oc_law_shape kV_law_shape dc_law_shape pm_law_shape cd_law_shape ct_law_shape : Value}
    (a_law_shape : PySem.W.nsIn K mainGlobals "_law_shape" = some (some (.ref f_law_shape))) (l_law_shape : K.lookup f_law_shape = some ⟨oc_law_shape, od_law_shape, .func (PySem.W.fnOf "_law_shape" "_law_shape" (defArgs s_law_shape) (defBody s_law_shape) (defScope s_law_shape) .none kV_law_shape dc_law_shape pm_law_shape an_law_shape cd_law_shape ct_law_shape), sl_law_shape⟩) (c_law_shape : PySem.W.codeIn K cd_law_shape "_law_shape" = true) (k_law_shape : PySem.W.keepIn K (.ref f_law_shape) = true)
    {f_law_piece_width : Addr} {od_law_piece_width an_law_piece_width : Option Addr} {sl_law_piece_width : Array (Option Value)} {oc_law_piece_width kV_law_piece_width dc_law_piece_width pm_law_piece_width cd_law_piece_width ct_law_piece_width : Value}
    (a_law_piece_width : PySem.W.nsIn K mainGlobals "_law_piece_width" = some (some (.ref f_law_piece_width))) (l_law_piece_width : K.lookup f_law_piece_width = some ⟨oc_law_piece_width, od_law_piece_width, .func (PySem.W.fnOf "_law_piece_width" "_law_piece_width" (defArgs s_law_piece_width) (defBody s_law_piece_width) (defScope s_law_piece_width) .none kV_law_piece_width dc_law_piece_width pm_law_piece_width an_law_piece_width cd_law_piece_width ct_law_piece_width), sl_law_piece_width⟩) (c_law_piece_width : PySem.W.codeIn K cd_law_piece_width "_law_piece_width" = true) (k_law_piece_width : PySem.W.keepIn K (.ref f_law_piece_width) = true)
    {f_law_natural : Addr} {od_law_natural an_law_natural : Option Addr} {sl_law_natural : Array (Option Value)} {oc_law_natural kV_law_natural dc_law_natural pm_law_natural cd_law_natural ct_law_natural : Value}
    (a_law_natural : PySem.W.nsIn K mainGlobals "_law_natural" = some (some (.ref f_law_natural))) (l_law_natural : K.lookup f_law_natural = some ⟨oc_law_natural, od_law_natural, .func (PySem.W.fnOf "_law_natural" "_law_natural" (defArgs s_law_natural) (defBody s_law_natural) (defScope s_law_natural) .none kV_law_natural dc_law_natural pm_law_natural an_law_natural cd_law_natural ct_law_natural), sl_law_natural⟩) (c_law_natural : PySem.W.codeIn K cd_law_natural "_law_natural" = true) (k_law_natural : PySem.W.keepIn K (.ref f_law_natural) = true)
    {f_law_positions : Addr} {od_law_positions an_law_positions : Option Addr} {sl_law_positions : Array (Option Value)} {oc_law_positions kV_law_positions dc_law_positions pm_law_positions cd_law_positions ct_law_positions : Value}
    (a_law_positions : PySem.W.nsIn K mainGlobals "_law_positions" = some (some (.ref f_law_positions))) (l_law_positions : K.lookup f_law_positions = some ⟨oc_law_positions, od_law_positions, .func (PySem.W.fnOf "_law_positions" "_law_positions" (defArgs s_law_positions) (defBody s_law_positions) (defScope s_law_positions) .none kV_law_positions dc_law_positions pm_law_positions an_law_positions cd_law_positions ct_law_positions), sl_law_positions⟩) (c_law_positions : PySem.W.codeIn K cd_law_positions "_law_positions" = true) (k_law_positions : PySem.W.keepIn K (.ref f_law_positions) = true)
    {f_law_line_cost : Addr} {od_law_line_cost an_law_line_cost : Option Addr} {sl_law_line_cost : Array (Option Value)} {oc_law_line_cost kV_law_line_cost dc_law_line_cost pm_law_line_cost cd_law_line_cost ct_law_line_cost : Value}
    (a_law_line_cost : PySem.W.nsIn K mainGlobals "_law_line_cost" = some (some (.ref f_law_line_cost))) (l_law_line_cost : K.lookup f_law_line_cost = some ⟨oc_law_line_cost, od_law_line_cost, .func (PySem.W.fnOf "_law_line_cost" "_law_line_cost" (defArgs s_law_line_cost) (defBody s_law_line_cost) (defScope s_law_line_cost) .none kV_law_line_cost dc_law_line_cost pm_law_line_cost an_law_line_cost cd_law_line_cost ct_law_line_cost), sl_law_line_cost⟩) (c_law_line_cost : PySem.W.codeIn K cd_law_line_cost "_law_line_cost" = true) (k_law_line_cost : PySem.W.keepIn K (.ref f_law_line_cost) = true)
    {f_law_exact : Addr} {od_law_exact an_law_exact : Option Addr} {sl_law_exact : Array (Option Value)} {oc_law_exact kV_law_exact dc_law_exact pm_law_exact cd_law_exact ct_law_exact : Value}
    (a_law_exact : PySem.W.nsIn K mainGlobals "_law_exact" = some (some (.ref f_law_exact))) (l_law_exact : K.lookup f_law_exact = some ⟨oc_law_exact, od_law_exact, .func (PySem.W.fnOf "_law_exact" "_law_exact" (defArgs s_law_exact) (defBody s_law_exact) (defScope s_law_exact) .none kV_law_exact dc_law_exact pm_law_exact an_law_exact cd_law_exact ct_law_exact), sl_law_exact⟩) (c_law_exact : PySem.W.codeIn K cd_law_exact "_law_exact" = true) (k_law_exact : PySem.W.keepIn K (.ref f_law_exact) = true)
    {f_law_drawn_words : Addr} {od_law_drawn_words an_law_drawn_words : Option Addr} {sl_law_drawn_words : Array (Option Value)} {oc_law_drawn_words kV_law_drawn_words dc_law_drawn_words pm_law_drawn_words cd_law_drawn_words ct_law_drawn_words : Value}
    (a_law_drawn_words : PySem.W.nsIn K mainGlobals "_law_drawn_words" = some (some (.ref f_law_drawn_words))) (l_law_drawn_words : K.lookup f_law_drawn_words = some ⟨oc_law_drawn_words, od_law_drawn_words, .func (PySem.W.fnOf "_law_drawn_words" "_law_drawn_words" (defArgs s_law_drawn_words) (defBody s_law_drawn_words) (defScope s_law_drawn_words) .none kV_law_drawn_words dc_law_drawn_words pm_law_drawn_words an_law_drawn_words cd_law_drawn_words ct_law_drawn_words), sl_law_drawn_words⟩) (c_law_drawn_words : PySem.W.codeIn K cd_law_drawn_words "_law_drawn_words" = true) (k_law_drawn_words : PySem.W.keepIn K (.ref f_law_drawn_words) = true)
    {f_law_style_for : Addr} {od_law_style_for an_law_style_for : Option Addr} {sl_law_style_for : Array (Option Value)} {oc_law_style_for kV_law_style_for dc_law_style_for pm_law_style_for cd_law_style_for ct_law_style_for : Value}
    (a_law_style_for : PySem.W.nsIn K mainGlobals "_law_style_for" = some (some (.ref f_law_style_for))) (l_law_style_for : K.lookup f_law_style_for = some ⟨oc_law_style_for, od_law_style_for, .func (PySem.W.fnOf "_law_style_for" "_law_style_for" (defArgs s_law_style_for) (defBody s_law_style_for) (defScope s_law_style_for) .none kV_law_style_for dc_law_style_for pm_law_style_for an_law_style_for cd_law_style_for ct_law_style_for), sl_law_style_for⟩) (c_law_style_for : PySem.W.codeIn K cd_law_style_for "_law_style_for" = true) (k_law_style_for : PySem.W.keepIn K (.ref f_law_style_for) = true)
    {f_law_measure : Addr} {od_law_measure an_law_measure : Option Addr} {sl_law_measure : Array (Option Value)} {oc_law_measure kV_law_measure dc_law_measure pm_law_measure cd_law_measure ct_law_measure : Value}
    (a_law_measure : PySem.W.nsIn K mainGlobals "_law_measure" = some (some (.ref f_law_measure))) (l_law_measure : K.lookup f_law_measure = some ⟨oc_law_measure, od_law_measure, .func (PySem.W.fnOf "_law_measure" "_law_measure" (defArgs s_law_measure) (defBody s_law_measure) (defScope s_law_measure) .none kV_law_measure dc_law_measure pm_law_measure an_law_measure cd_law_measure ct_law_measure), sl_law_measure⟩) (c_law_measure : PySem.W.codeIn K cd_law_measure "_law_measure" = true) (k_law_measure : PySem.W.keepIn K (.ref f_law_measure) = true)
    {f_law_arcs : Addr} {od_law_arcs an_law_arcs : Option Addr} {sl_law_arcs : Array (Option Value)} {oc_law_arcs kV_law_arcs dc_law_arcs pm_law_arcs cd_law_arcs ct_law_arcs : Value}
    (a_law_arcs : PySem.W.nsIn K mainGlobals "_law_arcs" = some (some (.ref f_law_arcs))) (l_law_arcs : K.lookup f_law_arcs = some ⟨oc_law_arcs, od_law_arcs, .func (PySem.W.fnOf "_law_arcs" "_law_arcs" (defArgs s_law_arcs) (defBody s_law_arcs) (defScope s_law_arcs) .none kV_law_arcs dc_law_arcs pm_law_arcs an_law_arcs cd_law_arcs ct_law_arcs), sl_law_arcs⟩) (c_law_arcs : PySem.W.codeIn K cd_law_arcs "_law_arcs" = true) (k_law_arcs : PySem.W.keepIn K (.ref f_law_arcs) = true)
    {f_law_least_prices : Addr} {od_law_least_prices an_law_least_prices : Option Addr} {sl_law_least_prices : Array (Option Value)} {oc_law_least_prices kV_law_least_prices dc_law_least_prices pm_law_least_prices cd_law_least_prices ct_law_least_prices : Value}
    (a_law_least_prices : PySem.W.nsIn K mainGlobals "_law_least_prices" = some (some (.ref f_law_least_prices))) (l_law_least_prices : K.lookup f_law_least_prices = some ⟨oc_law_least_prices, od_law_least_prices, .func (PySem.W.fnOf "_law_least_prices" "_law_least_prices" (defArgs s_law_least_prices) (defBody s_law_least_prices) (defScope s_law_least_prices) .none kV_law_least_prices dc_law_least_prices pm_law_least_prices an_law_least_prices cd_law_least_prices ct_law_least_prices), sl_law_least_prices⟩) (c_law_least_prices : PySem.W.codeIn K cd_law_least_prices "_law_least_prices" = true) (k_law_least_prices : PySem.W.keepIn K (.ref f_law_least_prices) = true)
    {f_law_totals : Addr} {od_law_totals an_law_totals : Option Addr} {sl_law_totals : Array (Option Value)} {oc_law_totals kV_law_totals dc_law_totals pm_law_totals cd_law_totals ct_law_totals : Value}
    (a_law_totals : PySem.W.nsIn K mainGlobals "_law_totals" = some (some (.ref f_law_totals))) (l_law_totals : K.lookup f_law_totals = some ⟨oc_law_totals, od_law_totals, .func (PySem.W.fnOf "_law_totals" "_law_totals" (defArgs s_law_totals) (defBody s_law_totals) (defScope s_law_totals) .none kV_law_totals dc_law_totals pm_law_totals an_law_totals cd_law_totals ct_law_totals), sl_law_totals⟩) (c_law_totals : PySem.W.codeIn K cd_law_totals "_law_totals" = true) (k_law_totals : PySem.W.keepIn K (.ref f_law_totals) = true)
    {f_law_is_paper : Addr} {od_law_is_paper an_law_is_paper : Option Addr} {sl_law_is_paper : Array (Option Value)} {oc_law_is_paper kV_law_is_paper dc_law_is_paper pm_law_is_paper cd_law_is_paper ct_law_is_paper : Value}
    (a_law_is_paper : PySem.W.nsIn K mainGlobals "_law_is_paper" = some (some (.ref f_law_is_paper))) (l_law_is_paper : K.lookup f_law_is_paper = some ⟨oc_law_is_paper, od_law_is_paper, .func (PySem.W.fnOf "_law_is_paper" "_law_is_paper" (defArgs s_law_is_paper) (defBody s_law_is_paper) (defScope s_law_is_paper) .none kV_law_is_paper dc_law_is_paper pm_law_is_paper an_law_is_paper cd_law_is_paper ct_law_is_paper), sl_law_is_paper⟩) (c_law_is_paper : PySem.W.codeIn K cd_law_is_paper "_law_is_paper" = true) (k_law_is_paper : PySem.W.keepIn K (.ref f_law_is_paper) = true)
    {f_law_bent_paper : Addr} {od_law_bent_paper an_law_bent_paper : Option Addr} {sl_law_bent_paper : Array (Option Value)} {oc_law_bent_paper kV_law_bent_paper dc_law_bent_paper pm_law_bent_paper cd_law_bent_paper ct_law_bent_paper : Value}
    (a_law_bent_paper : PySem.W.nsIn K mainGlobals "_law_bent_paper" = some (some (.ref f_law_bent_paper))) (l_law_bent_paper : K.lookup f_law_bent_paper = some ⟨oc_law_bent_paper, od_law_bent_paper, .func (PySem.W.fnOf "_law_bent_paper" "_law_bent_paper" (defArgs s_law_bent_paper) (defBody s_law_bent_paper) (defScope s_law_bent_paper) .none kV_law_bent_paper dc_law_bent_paper pm_law_bent_paper an_law_bent_paper cd_law_bent_paper ct_law_bent_paper), sl_law_bent_paper⟩) (c_law_bent_paper : PySem.W.codeIn K cd_law_bent_paper "_law_bent_paper" = true) (k_law_bent_paper : PySem.W.keepIn K (.ref f_law_bent_paper) = true)
    {f_law_told_total : Addr} {od_law_told_total an_law_told_total : Option Addr} {sl_law_told_total : Array (Option Value)} {oc_law_told_total kV_law_told_total dc_law_told_total pm_law_told_total cd_law_told_total ct_law_told_total : Value}
    (a_law_told_total : PySem.W.nsIn K mainGlobals "_law_told_total" = some (some (.ref f_law_told_total))) (l_law_told_total : K.lookup f_law_told_total = some ⟨oc_law_told_total, od_law_told_total, .func (PySem.W.fnOf "_law_told_total" "_law_told_total" (defArgs s_law_told_total) (defBody s_law_told_total) (defScope s_law_told_total) .none kV_law_told_total dc_law_told_total pm_law_told_total an_law_told_total cd_law_told_total ct_law_told_total), sl_law_told_total⟩) (c_law_told_total : PySem.W.codeIn K cd_law_told_total "_law_told_total" = true) (k_law_told_total : PySem.W.keepIn K (.ref f_law_told_total) = true)
    {f_law_shut_out : Addr} {od_law_shut_out an_law_shut_out : Option Addr} {sl_law_shut_out : Array (Option Value)} {oc_law_shut_out kV_law_shut_out dc_law_shut_out pm_law_shut_out cd_law_shut_out ct_law_shut_out : Value}
    (a_law_shut_out : PySem.W.nsIn K mainGlobals "_law_shut_out" = some (some (.ref f_law_shut_out))) (l_law_shut_out : K.lookup f_law_shut_out = some ⟨oc_law_shut_out, od_law_shut_out, .func (PySem.W.fnOf "_law_shut_out" "_law_shut_out" (defArgs s_law_shut_out) (defBody s_law_shut_out) (defScope s_law_shut_out) .none kV_law_shut_out dc_law_shut_out pm_law_shut_out an_law_shut_out cd_law_shut_out ct_law_shut_out), sl_law_shut_out⟩) (c_law_shut_out : PySem.W.codeIn K cd_law_shut_out "_law_shut_out" = true) (k_law_shut_out : PySem.W.keepIn K (.ref f_law_shut_out) = true)
    {f_law : Addr} {od_law an_law : Option Addr} {sl_law : Array (Option Value)} {oc_law kV_law dc_law pm_law cd_law ct_law : Value}
    (a_law : PySem.W.nsIn K mainGlobals "law" = some (some (.ref f_law))) (l_law : K.lookup f_law = some ⟨oc_law, od_law, .func (PySem.W.fnOf "law" "law" (defArgs s_law) (defBody s_law) (defScope s_law) .none kV_law dc_law pm_law an_law cd_law ct_law), sl_law⟩) (c_law : PySem.W.codeIn K cd_law "law" = true) (k_law : PySem.W.keepIn K (.ref f_law) = true)
    (n_all : PySem.W.nsIn K mainGlobals "all" = some none)
    (n_bool : PySem.W.nsIn K mainGlobals "bool" = some none)
    (n_enumerate : PySem.W.nsIn K mainGlobals "enumerate" = some none)
    (n_int : PySem.W.nsIn K mainGlobals "int" = some none)
    (n_isinstance : PySem.W.nsIn K mainGlobals "isinstance" = some none)
    (n_len : PySem.W.nsIn K mainGlobals "len" = some none)
    (n_list : PySem.W.nsIn K mainGlobals "list" = some none)
    (n_max : PySem.W.nsIn K mainGlobals "max" = some none)
    (n_min : PySem.W.nsIn K mainGlobals "min" = some none)
    (n_range : PySem.W.nsIn K mainGlobals "range" = some none)
    (n_sorted : PySem.W.nsIn K mainGlobals "sorted" = some none)
    (n_str : PySem.W.nsIn K mainGlobals "str" = some none)
    (n_sum : PySem.W.nsIn K mainGlobals "sum" = some none)
    (n_tuple : PySem.W.nsIn K mainGlobals "tuple" = some none)
    {cc_PagesError : Addr} (g_PagesError : PySem.W.nsIn K mainGlobals "PagesError" = some (some (.ref cc_PagesError))) (ic_PagesError : PySem.W.isClsIn K cc_PagesError = true) (ty_PagesError : PySem.W.typeIn K (.ref cc_PagesError) = some (.type "type"))
    {cc_LimitError : Addr} (g_LimitError : PySem.W.nsIn K mainGlobals "LimitError" = some (some (.ref cc_LimitError))) (ic_LimitError : PySem.W.isClsIn K cc_LimitError = true) (ty_LimitError : PySem.W.typeIn K (.ref cc_LimitError) = some (.type "type"))
    {cc_TooWide : Addr} (g_TooWide : PySem.W.nsIn K mainGlobals "TooWide" = some (some (.ref cc_TooWide))) (ic_TooWide : PySem.W.isClsIn K cc_TooWide = true) (ty_TooWide : PySem.W.typeIn K (.ref cc_TooWide) = some (.type "type"))
    (bx_PagesError : PySem.W.subIn K (.ref cc_PagesError) (.type "BaseException") = some true)
    (o_hn : PySem.W.specialIn K (.builtin "object.__class__") "__get__" = some (some (.builtin "getset_descriptor.__get__"))) (o_ht : PySem.W.takesIn K (.builtin "object.__class__") = some true)
    {nm_TooWide q_TooWide : Str} {N_TooWide : Addr} {bs_TooWide bm_TooWide : List Value} {sn_TooWide : List Str} {sub_TooWide : List Value} {ab_TooWide : Bool} {col_TooWide : Option Bool} {dd_TooWide : Option Addr} {k0_TooWide k1_TooWide k2_TooWide k3_TooWide k5_TooWide : Option Value}
    (xL_TooWide : K.lookup cc_TooWide = some (excClassObj nm_TooWide q_TooWide cc_TooWide N_TooWide bs_TooWide bm_TooWide true sn_TooWide sub_TooWide ab_TooWide col_TooWide dd_TooWide k0_TooWide k1_TooWide k2_TooWide k3_TooWide k5_TooWide "ValueError.__new__"))
    (rv_TooWide : PySem.HandSPX.refsVE bm_TooWide = true)
    (sa_TooWide : PySem.W.findIn K (.ref cc_TooWide) "__setattr__" = some (some (.builtin "object.__setattr__")))
    (ga_TooWide : PySem.W.findIn K (.ref cc_TooWide) "__getattribute__" = some (some (.builtin "BaseException.__getattribute__")))
    (gg_TooWide : PySem.W.findIn K (.ref cc_TooWide) "__getattr__" = some none)
    (ex_TooWide : PySem.W.subIn K (.ref cc_TooWide) (.type "BaseException") = some true)
    (kp_TooWide : PySem.W.keepIn K (.ref cc_TooWide) = true)
    (hd_TooWide : PySem.W.hasDictIn K cc_TooWide = true)
    (ha_TooWide : PySem.W.findIn K (.ref cc_TooWide) "__class__" = some (some (.builtin "object.__class__")))
    (hm_TooWide : PySem.W.mroIn K cc_TooWide (.type "object") = some true)
    (vs_TooWide : PySem.W.subIn K (.ref cc_TooWide) (.type "ValueError") = some true)
    (no_TooWide_part : PySem.W.findIn K (.ref cc_TooWide) "part" = some none)
    (sb_TooWide_PagesError : PySem.W.subIn K (.ref cc_TooWide) (.ref cc_PagesError) = some true)
    (sb_TooWide_LimitError : PySem.W.subIn K (.ref cc_TooWide) (.ref cc_LimitError) = some true)
    (sb_TooWide_TooWide : PySem.W.subIn K (.ref cc_TooWide) (.ref cc_TooWide) = some true)
    {fi_TooWide : Addr} {odi_TooWide ani_TooWide : Option Addr} {sli_TooWide : Array (Option Value)} {oci_TooWide kVi_TooWide dci_TooWide pmi_TooWide cdi_TooWide cti_TooWide : Value}
    (ii_TooWide : PySem.W.findIn K (.ref cc_TooWide) "__init__" = some (some (.ref fi_TooWide))) (ti_TooWide : PySem.W.typeIn K (.ref fi_TooWide) = some (.type "function")) (li_TooWide : K.lookup fi_TooWide = some ⟨oci_TooWide, odi_TooWide, .func (PySem.W.fnOf "__init__" "TooWide.__init__" (defArgs s_TooWide_init) (defBody s_TooWide_init) (defScope s_TooWide_init) .none kVi_TooWide dci_TooWide pmi_TooWide ani_TooWide cdi_TooWide cti_TooWide), sli_TooWide⟩) (ci_TooWide : PySem.W.codeIn K cdi_TooWide "TooWide.__init__" = true) (ki_TooWide : PySem.W.keepIn K (.ref fi_TooWide) = true)
    {cA : Addr} (e_lam2 : cd_bounds_of = .ref cA) (hd_lam2 : PySem.W.codeHdIn K cA (He.tabOf K cA) = true) (no_lam2 : K.lookup (He.tabOf K cA) = none) (ht_lam2 : h.get? (He.tabOf K cA) = some { cls := .none, data := .fields #[] })
    {cB : Addr} (e_lam : cd_least_lines = .ref cB) (hd_lam : PySem.W.codeHdIn K cB (He.tabOf K cB) = true) (no_lam : K.lookup (He.tabOf K cB) = none) (ht_lam : h.get? (He.tabOf K cB) = some { cls := .none, data := .fields #[] })
    (ne_lam : (He.tabOf K cB == He.tabOf K cA) = false)
    : LamX.LawAtS l w K CX0 9 63 "_law_script" mg fa h := by
  have e := hfa.symm.trans (PySem.W.mg_of X G a_law)
  cases e
  have F_bounds_of := fun_mk (st := s_bounds_of) l_bounds_of c_bounds_of k_bounds_of
  have b_bounds_of := F_bounds_of.binds (ps := ["net"]) fun _ _ _ _ _ _ us hl => match us, hl with | [_], _ => rfl
  have F_judge_bounds := fun_mk (st := s_judge_bounds) l_judge_bounds c_judge_bounds k_judge_bounds
  have b_judge_bounds := F_judge_bounds.binds (ps := ["net", "total", "bounds"]) fun _ _ _ _ _ _ us hl => match us, hl with | [_, _, _], _ => rfl
  have F_least_way_along := fun_mk (st := s_least_way_along) l_least_way_along c_least_way_along k_least_way_along
  have b_least_way_along := F_least_way_along.binds (ps := ["places", "leads"]) fun _ _ _ _ _ _ us hl => match us, hl with | [_, _], _ => rfl
  have F_leading := fun_mk (st := s_leading) l_leading c_leading k_leading
  have b_leading := F_leading.binds (ps := ["net"]) fun _ _ _ _ _ _ us hl => match us, hl with | [_], _ => rfl
  have F_bounds_and_tails := fun_mk (st := s_bounds_and_tails) l_bounds_and_tails c_bounds_and_tails k_bounds_and_tails
  have b_bounds_and_tails := F_bounds_and_tails.binds (ps := ["places", "leads"]) fun _ _ _ _ _ _ us hl => match us, hl with | [_, _], _ => rfl
  have F_piece_width := fun_mk (st := s_piece_width) l_piece_width c_piece_width k_piece_width
  have b_piece_width := F_piece_width.binds (ps := ["shape", "first", "last"]) fun _ _ _ _ _ _ us hl => match us, hl with | [_, _, _], _ => rfl
  have F_positions := fun_mk (st := s_positions) l_positions c_positions k_positions
  have b_positions := F_positions.binds (ps := ["shapes"]) fun _ _ _ _ _ _ us hl => match us, hl with | [_], _ => rfl
  have F_line_net := fun_mk (st := s_line_net) l_line_net c_line_net k_line_net
  have b_line_net := F_line_net.binds (ps := ["measure", "ladder", "shapes"]) fun _ _ _ _ _ _ us hl => match us, hl with | [_, _, _], _ => rfl
  have F_least_lines := fun_mk (st := s_least_lines) l_least_lines c_least_lines k_least_lines
  have b_least_lines := F_least_lines.binds (ps := ["measure", "ladder", "shapes"]) fun _ _ _ _ _ _ us hl => match us, hl with | [_, _, _], _ => rfl
  have F_lines_from := fun_mk (st := s_lines_from) l_lines_from c_lines_from k_lines_from
  have b_lines_from := F_lines_from.binds (ps := ["measure", "ladder", "shapes", "begin"]) fun _ _ _ _ _ _ us hl => match us, hl with | [_, _, _, _], _ => rfl
  have F_ends_from := fun_mk (st := s_ends_from) l_ends_from c_ends_from k_ends_from
  have b_ends_from := F_ends_from.binds (ps := ["measure", "shapes", "begin"]) fun _ _ _ _ _ _ us hl => match us, hl with | [_, _, _], _ => rfl
  have F_cost := fun_mk (st := s_cost) l_cost c_cost k_cost
  have b_cost := F_cost.binds (ps := ["measure", "ladder", "shapes", "begin", "end", "width"]) fun _ _ _ _ _ _ us hl => match us, hl with | [_, _, _, _, _, _], _ => rfl
  have F_law_begin := fun_mk (st := s_law_begin) l_law_begin c_law_begin k_law_begin
  have b_law_begin := F_law_begin.binds (ps := ["_law_script"]) fun _ _ _ _ _ _ us hl => match us, hl with | [_], _ => rfl
  have F_law_draw := fun_mk (st := s_law_draw) l_law_draw c_law_draw k_law_draw
  have b_law_draw := F_law_draw.binds (ps := ["_law_d", "_law_many"]) fun _ _ _ _ _ _ us hl => match us, hl with | [_, _], _ => rfl
  have F_law_pick := fun_mk (st := s_law_pick) l_law_pick c_law_pick k_law_pick
  have b_law_pick := F_law_pick.binds (ps := ["_law_d", "_law_row"]) fun _ _ _ _ _ _ us hl => match us, hl with | [_, _], _ => rfl
  have F_law_rare := fun_mk (st := s_law_rare) l_law_rare c_law_rare k_law_rare
  have b_law_rare := F_law_rare.binds (ps := ["_law_d", "_law_many"]) fun _ _ _ _ _ _ us hl => match us, hl with | [_, _], _ => rfl
  have F_law_piece := fun_mk (st := s_law_piece) l_law_piece c_law_piece k_law_piece
  have b_law_piece := F_law_piece.binds (ps := ["_law_style", "_law_word", "_law_first", "_law_behind"]) fun _ _ _ _ _ _ us hl => match us, hl with | [_, _, _, _], _ => rfl
  have F_law_places := fun_mk (st := s_law_places) l_law_places c_law_places k_law_places
  have b_law_places := F_law_places.binds (ps := ["_law_style", "_law_word"]) fun _ _ _ _ _ _ us hl => match us, hl with | [_, _], _ => rfl
  have F_law_shape := fun_mk (st := s_law_shape) l_law_shape c_law_shape k_law_shape
  have b_law_shape := F_law_shape.binds (ps := ["_law_style", "_law_word"]) fun _ _ _ _ _ _ us hl => match us, hl with | [_, _], _ => rfl
  have F_law_piece_width := fun_mk (st := s_law_piece_width) l_law_piece_width c_law_piece_width k_law_piece_width
  have b_law_piece_width := F_law_piece_width.binds (ps := ["_law_shape_here", "_law_first", "_law_last"]) fun _ _ _ _ _ _ us hl => match us, hl with | [_, _, _], _ => rfl
  have F_law_natural := fun_mk (st := s_law_natural) l_law_natural c_law_natural k_law_natural
  have b_law_natural := F_law_natural.binds (ps := ["_law_shapes", "_law_start", "_law_end"]) fun _ _ _ _ _ _ us hl => match us, hl with | [_, _, _], _ => rfl
  have F_law_positions := fun_mk (st := s_law_positions) l_law_positions c_law_positions k_law_positions
  have b_law_positions := F_law_positions.binds (ps := ["_law_shapes"]) fun _ _ _ _ _ _ us hl => match us, hl with | [_], _ => rfl
  have F_law_line_cost := fun_mk (st := s_law_line_cost) l_law_line_cost c_law_line_cost k_law_line_cost
  have b_law_line_cost := F_law_line_cost.binds (ps := ["_law_measure_here", "_law_ladder", "_law_shapes", "_law_start", "_law_end"]) fun _ _ _ _ _ _ us hl => match us, hl with | [_, _, _, _, _], _ => rfl
  have F_law_exact := fun_mk (st := s_law_exact) l_law_exact c_law_exact k_law_exact
  have b_law_exact := F_law_exact.binds (ps := ["_law_told", "_law_due"]) fun _ _ _ _ _ _ us hl => match us, hl with | [_, _], _ => rfl
  have F_law_drawn_words := fun_mk (st := s_law_drawn_words) l_law_drawn_words c_law_drawn_words k_law_drawn_words
  have b_law_drawn_words := F_law_drawn_words.binds (ps := ["_law_d"]) fun _ _ _ _ _ _ us hl => match us, hl with | [_], _ => rfl
  have F_law_style_for := fun_mk (st := s_law_style_for) l_law_style_for c_law_style_for k_law_style_for
  have b_law_style_for := F_law_style_for.binds (ps := ["_law_d", "_law_words"]) fun _ _ _ _ _ _ us hl => match us, hl with | [_, _], _ => rfl
  have F_law_measure := fun_mk (st := s_law_measure) l_law_measure c_law_measure k_law_measure
  have b_law_measure := F_law_measure.binds (ps := ["_law_d", "_law_shapes"]) fun _ _ _ _ _ _ us hl => match us, hl with | [_, _], _ => rfl
  have F_law_arcs := fun_mk (st := s_law_arcs) l_law_arcs c_law_arcs k_law_arcs
  have b_law_arcs := F_law_arcs.binds (ps := ["_law_measure_here", "_law_ladder", "_law_shapes"]) fun _ _ _ _ _ _ us hl => match us, hl with | [_, _, _], _ => rfl
  have F_law_least_prices := fun_mk (st := s_law_least_prices) l_law_least_prices c_law_least_prices k_law_least_prices
  have b_law_least_prices := F_law_least_prices.binds (ps := ["_law_rows"]) fun _ _ _ _ _ _ us hl => match us, hl with | [_], _ => rfl
  have F_law_totals := fun_mk (st := s_law_totals) l_law_totals c_law_totals k_law_totals
  have b_law_totals := F_law_totals.binds (ps := ["_law_rows", "_law_least"]) fun _ _ _ _ _ _ us hl => match us, hl with | [_, _], _ => rfl
  have F_law_is_paper := fun_mk (st := s_law_is_paper) l_law_is_paper c_law_is_paper k_law_is_paper
  have b_law_is_paper := F_law_is_paper.binds (ps := ["_law_rows", "_law_total", "_law_paper"]) fun _ _ _ _ _ _ us hl => match us, hl with | [_, _, _], _ => rfl
  have F_law_bent_paper := fun_mk (st := s_law_bent_paper) l_law_bent_paper c_law_bent_paper k_law_bent_paper
  have b_law_bent_paper := F_law_bent_paper.binds (ps := ["_law_d", "_law_right"]) fun _ _ _ _ _ _ us hl => match us, hl with | [_, _], _ => rfl
  have F_law_told_total := fun_mk (st := s_law_told_total) l_law_told_total c_law_told_total k_law_told_total
  have b_law_told_total := F_law_told_total.binds (ps := ["_law_measure_here", "_law_ladder", "_law_shapes"]) fun _ _ _ _ _ _ us hl => match us, hl with | [_, _, _], _ => rfl
  have F_law_shut_out := fun_mk (st := s_law_shut_out) l_law_shut_out c_law_shut_out k_law_shut_out
  have b_law_shut_out := F_law_shut_out.binds (ps := ["_law_claim", "_law_totals_here"]) fun _ _ _ _ _ _ us hl => match us, hl with | [_, _], _ => rfl
  have F_law := fun_mk (st := s_law) l_law c_law k_law
  have b_law := F_law.binds (ps := ["_law_script"]) fun _ _ _ _ _ _ us hl => match us, hl with | [_], _ => rfl
  have Fi_TooWide := fun_mk (st := s_TooWide_init) li_TooWide ci_TooWide ki_TooWide
  have bi_TooWide := Fi_TooWide.binds (ps := ["self", "part"]) fun _ _ _ _ _ _ us hl => match us, hl with | [_, _], _ => rfl
  have t1 : ∀ p ∈ [(cB, He.tabOf K cB), (cA, He.tabOf K cA)], h.get? p.2 = some { cls := .none, data := .fields #[] } := fun p hp => by
    rcases List.mem_cons.mp hp with rfl | hp
    · exact ht_lam
    · rw [List.mem_singleton.mp hp]; exact ht_lam2
  have t2 : ∀ p ∈ [(cB, He.tabOf K cB), (cA, He.tabOf K cA)], K.lookup p.2 = none := fun p hp => by
    rcases List.mem_cons.mp hp with rfl | hp
    · exact no_lam
    · rw [List.mem_singleton.mp hp]; exact no_lam2
  exact ⟨PySem.W.fnOf "law" "law" (defArgs s_law) (defBody s_law) (defScope s_law) .none kV_law dc_law pm_law an_law cd_law ct_law, [(cB, He.tabOf K cB), (cA, He.tabOf K cA)], spLaw K (He.tabOf K cB) (He.tabOf K cA), t1, t2, fun p hp => by
    rcases List.mem_cons.mp hp with rfl | hp
    · exact PySem.W.codeHd_of_K X hd_lam
    · rw [List.mem_singleton.mp hp]; exact PySem.W.codeHd_of_K X hd_lam2, fun s v => .of_eq rfl, fun H a ns hl _ hp hS => ⟨a, ns, rfl, hS, hl, fun p hp2 => (by
      rcases List.mem_cons.mp hp2 with rfl | hp2
      · exact LamX.TabS.nil (hp _ List.mem_cons_self)
      · rw [List.mem_singleton.mp hp2]; exact LamX.TabS.nil (hp _ (List.mem_cons_of_mem _ List.mem_cons_self))), fun _ => rfl⟩, fun base _ _ hB => ok_law (c := cB) (Pt := He.tabOf K cB) (hcode := e_lam) (TB := hB _ List.mem_cons_self) (c2 := cA) (Pb := He.tabOf K cA) (hcode2 := e_lam2) (TB2 := hB _ (List.mem_cons_of_mem _ List.mem_cons_self)) (hne := beq_eq_false_iff_ne.mp ne_lam) (T := {
    a_bounds_of := _,
    d_bounds_of := _,
    D_bounds_of := ⟨F_bounds_of, PySem.W.mg_of X G a_bounds_of, b_bounds_of, ⟨_, _, _, _, _, _, rfl⟩⟩,
    a_judge_bounds := _,
    d_judge_bounds := _,
    D_judge_bounds := ⟨F_judge_bounds, PySem.W.mg_of X G a_judge_bounds, b_judge_bounds, ⟨_, _, _, _, _, _, rfl⟩⟩,
    a_least_way_along := _,
    d_least_way_along := _,
    D_least_way_along := ⟨F_least_way_along, PySem.W.mg_of X G a_least_way_along, b_least_way_along, ⟨_, _, _, _, _, _, rfl⟩⟩,
    a_leading := _,
    d_leading := _,
    D_leading := ⟨F_leading, PySem.W.mg_of X G a_leading, b_leading, ⟨_, _, _, _, _, _, rfl⟩⟩,
    a_bounds_and_tails := _,
    d_bounds_and_tails := _,
    D_bounds_and_tails := ⟨F_bounds_and_tails, PySem.W.mg_of X G a_bounds_and_tails, b_bounds_and_tails, ⟨_, _, _, _, _, _, rfl⟩⟩,
    a_piece_width := _,
    d_piece_width := _,
    D_piece_width := ⟨F_piece_width, PySem.W.mg_of X G a_piece_width, b_piece_width, ⟨_, _, _, _, _, _, rfl⟩⟩,
    a_positions := _,
    d_positions := _,
    D_positions := ⟨F_positions, PySem.W.mg_of X G a_positions, b_positions, ⟨_, _, _, _, _, _, rfl⟩⟩,
    a_line_net := _,
    d_line_net := _,
    D_line_net := ⟨F_line_net, PySem.W.mg_of X G a_line_net, b_line_net, ⟨_, _, _, _, _, _, rfl⟩⟩,
    a_least_lines := _,
    d_least_lines := _,
    D_least_lines := ⟨F_least_lines, PySem.W.mg_of X G a_least_lines, b_least_lines, ⟨_, _, _, _, _, _, rfl⟩⟩,
    a_lines_from := _,
    d_lines_from := _,
    D_lines_from := ⟨F_lines_from, PySem.W.mg_of X G a_lines_from, b_lines_from, ⟨_, _, _, _, _, _, rfl⟩⟩,
    a_ends_from := _,
    d_ends_from := _,
    D_ends_from := ⟨F_ends_from, PySem.W.mg_of X G a_ends_from, b_ends_from, ⟨_, _, _, _, _, _, rfl⟩⟩,
    a_cost := _,
    d_cost := _,
    D_cost := ⟨F_cost, PySem.W.mg_of X G a_cost, b_cost, ⟨_, _, _, _, _, _, rfl⟩⟩,
    a_law_begin := _,
    d_law_begin := _,
    D_law_begin := ⟨F_law_begin, PySem.W.mg_of X G a_law_begin, b_law_begin, ⟨_, _, _, _, _, _, rfl⟩⟩,
    a_law_draw := _,
    d_law_draw := _,
    D_law_draw := ⟨F_law_draw, PySem.W.mg_of X G a_law_draw, b_law_draw, ⟨_, _, _, _, _, _, rfl⟩⟩,
    a_law_pick := _,
    d_law_pick := _,
    D_law_pick := ⟨F_law_pick, PySem.W.mg_of X G a_law_pick, b_law_pick, ⟨_, _, _, _, _, _, rfl⟩⟩,
    a_law_rare := _,
    d_law_rare := _,
    D_law_rare := ⟨F_law_rare, PySem.W.mg_of X G a_law_rare, b_law_rare, ⟨_, _, _, _, _, _, rfl⟩⟩,
    a_law_piece := _,
    d_law_piece := _,
    D_law_piece := ⟨F_law_piece, PySem.W.mg_of X G a_law_piece, b_law_piece, ⟨_, _, _, _, _, _, rfl⟩⟩,
    a_law_places := _,
    d_law_places := _,
    D_law_places := ⟨F_law_places, PySem.W.mg_of X G a_law_places, b_law_places, ⟨_, _, _, _, _, _, rfl⟩⟩,
    a_law_shape := _,
    d_law_shape := _,
    D_law_shape := ⟨F_law_shape, PySem.W.mg_of X G a_law_shape, b_law_shape, ⟨_, _, _, _, _, _, rfl⟩⟩,
    a_law_piece_width := _,
    d_law_piece_width := _,
    D_law_piece_width := ⟨F_law_piece_width, PySem.W.mg_of X G a_law_piece_width, b_law_piece_width, ⟨_, _, _, _, _, _, rfl⟩⟩,
    a_law_natural := _,
    d_law_natural := _,
    D_law_natural := ⟨F_law_natural, PySem.W.mg_of X G a_law_natural, b_law_natural, ⟨_, _, _, _, _, _, rfl⟩⟩,
    a_law_positions := _,
    d_law_positions := _,
    D_law_positions := ⟨F_law_positions, PySem.W.mg_of X G a_law_positions, b_law_positions, ⟨_, _, _, _, _, _, rfl⟩⟩,
    a_law_line_cost := _,
    d_law_line_cost := _,
    D_law_line_cost := ⟨F_law_line_cost, PySem.W.mg_of X G a_law_line_cost, b_law_line_cost, ⟨_, _, _, _, _, _, rfl⟩⟩,
    a_law_exact := _,
    d_law_exact := _,
    D_law_exact := ⟨F_law_exact, PySem.W.mg_of X G a_law_exact, b_law_exact, ⟨_, _, _, _, _, _, rfl⟩⟩,
    a_law_drawn_words := _,
    d_law_drawn_words := _,
    D_law_drawn_words := ⟨F_law_drawn_words, PySem.W.mg_of X G a_law_drawn_words, b_law_drawn_words, ⟨_, _, _, _, _, _, rfl⟩⟩,
    a_law_style_for := _,
    d_law_style_for := _,
    D_law_style_for := ⟨F_law_style_for, PySem.W.mg_of X G a_law_style_for, b_law_style_for, ⟨_, _, _, _, _, _, rfl⟩⟩,
    a_law_measure := _,
    d_law_measure := _,
    D_law_measure := ⟨F_law_measure, PySem.W.mg_of X G a_law_measure, b_law_measure, ⟨_, _, _, _, _, _, rfl⟩⟩,
    a_law_arcs := _,
    d_law_arcs := _,
    D_law_arcs := ⟨F_law_arcs, PySem.W.mg_of X G a_law_arcs, b_law_arcs, ⟨_, _, _, _, _, _, rfl⟩⟩,
    a_law_least_prices := _,
    d_law_least_prices := _,
    D_law_least_prices := ⟨F_law_least_prices, PySem.W.mg_of X G a_law_least_prices, b_law_least_prices, ⟨_, _, _, _, _, _, rfl⟩⟩,
    a_law_totals := _,
    d_law_totals := _,
    D_law_totals := ⟨F_law_totals, PySem.W.mg_of X G a_law_totals, b_law_totals, ⟨_, _, _, _, _, _, rfl⟩⟩,
    a_law_is_paper := _,
    d_law_is_paper := _,
    D_law_is_paper := ⟨F_law_is_paper, PySem.W.mg_of X G a_law_is_paper, b_law_is_paper, ⟨_, _, _, _, _, _, rfl⟩⟩,
    a_law_bent_paper := _,
    d_law_bent_paper := _,
    D_law_bent_paper := ⟨F_law_bent_paper, PySem.W.mg_of X G a_law_bent_paper, b_law_bent_paper, ⟨_, _, _, _, _, _, rfl⟩⟩,
    a_law_told_total := _,
    d_law_told_total := _,
    D_law_told_total := ⟨F_law_told_total, PySem.W.mg_of X G a_law_told_total, b_law_told_total, ⟨_, _, _, _, _, _, rfl⟩⟩,
    a_law_shut_out := _,
    d_law_shut_out := _,
    D_law_shut_out := ⟨F_law_shut_out, PySem.W.mg_of X G a_law_shut_out, b_law_shut_out, ⟨_, _, _, _, _, _, rfl⟩⟩,
    a_law := _,
    d_law := _,
    D_law := ⟨F_law, PySem.W.mg_of X G a_law, b_law, ⟨_, _, _, _, _, _, rfl⟩⟩,
    n_all := PySem.W.mg_none_of X G n_all,
    n_bool := PySem.W.mg_none_of X G n_bool,
    n_enumerate := PySem.W.mg_none_of X G n_enumerate,
    n_int := PySem.W.mg_none_of X G n_int,
    n_isinstance := PySem.W.mg_none_of X G n_isinstance,
    n_len := PySem.W.mg_none_of X G n_len,
    n_list := PySem.W.mg_none_of X G n_list,
    n_max := PySem.W.mg_none_of X G n_max,
    n_min := PySem.W.mg_none_of X G n_min,
    n_range := PySem.W.mg_none_of X G n_range,
    n_sorted := PySem.W.mg_none_of X G n_sorted,
    n_str := PySem.W.mg_none_of X G n_str,
    n_sum := PySem.W.mg_none_of X G n_sum,
    n_tuple := PySem.W.mg_none_of X G n_tuple,
    c_PagesError := _,
    C_PagesError := ⟨PySem.W.mg_of X G g_PagesError, ic_PagesError, ty_PagesError⟩,
    c_LimitError := _,
    C_LimitError := ⟨PySem.W.mg_of X G g_LimitError, ic_LimitError, ty_LimitError⟩,
    c_TooWide := _,
    C_TooWide := ⟨PySem.W.mg_of X G g_TooWide, ic_TooWide, ty_TooWide⟩,
    i_TooWide := _,
    d_TooWide := _,
    E_TooWide := ⟨PySem.W.mg_of X G g_TooWide, ⟨⟨_, _, _, _, _, _, _, _, _, _, _, _, _, _, _, xL_TooWide, rv_TooWide⟩, sa_TooWide, ex_TooWide, ty_TooWide, kp_TooWide⟩, ⟨ga_TooWide, gg_TooWide, ex_TooWide, hd_TooWide, ha_TooWide, o_hn, o_ht, hm_TooWide⟩, ⟨ga_TooWide, gg_TooWide, ex_TooWide, hd_TooWide⟩, ii_TooWide, ti_TooWide, Fi_TooWide, bi_TooWide, fun f hf => by simp only [List.mem_cons, List.not_mem_nil, or_false] at hf; subst hf; exact no_TooWide_part⟩,
    k_TooWide_PagesError := kit_ref sb_TooWide_TooWide ic_PagesError ty_PagesError sb_TooWide_PagesError,
    k_TooWide_LimitError := kit_ref sb_TooWide_TooWide ic_LimitError ty_LimitError sb_TooWide_LimitError,
    k_TooWide_TooWide := kit_ref sb_TooWide_TooWide ic_TooWide ty_TooWide sb_TooWide_TooWide,
    v_TooWide := kit_typ vs_TooWide,
    x_TooWide := exm_ref bx_PagesError ic_PagesError ty_PagesError sb_TooWide_PagesError,
    y_TooWide := exm_ref ex_TooWide ic_TooWide ty_TooWide sb_TooWide_TooWide })⟩
end Vf
open PySem PySem.W PyProof.Rows
set_option maxHeartbeats 0 in
theorem PySem.Challenge.cw_hushedpages_k23_whole_lines_paper_holds : PySem.Challenge.rw_hushedpages_k23_whole_lines_paper.Holds := by
  w_on; o_law; k_head; (case hw => w_witness2)
  k_fill
  refine LamX.walk_ofTs (l := PySem.Challenge.rw_hushedpages_k23_whole_lines_paper) (n := 63) (k := 9) (x := "_law_script") (CX := fun _ => L2.CX0) rfl (by decide) rfl ⟨rfl, by decide, by decide⟩ (fun w h Y => PySem.W.km_in_of Y) ?F (fun _ _ _ _ _ h => h)
  case F =>
    intro w mg fa h Y KX G hmg
    have hTs := PySem.W.km_tabs_of Y
    refine' Vf.all_mk KX G hmg ?a_bounds_of ?l_bounds_of ?c_bounds_of ?k_bounds_of ?a_judge_bounds ?l_judge_bounds ?c_judge_bounds ?k_judge_bounds ?a_least_way_along ?l_least_way_along ?c_least_way_along ?k_least_way_along ?a_leading ?l_leading ?c_leading ?k_leading ?a_bounds_and_tails ?l_bounds_and_tails ?c_bounds_and_tails ?k_bounds_and_tails ?a_piece_width ?l_piece_width ?c_piece_width ?k_piece_width ?a_positions ?l_positions ?c_positions ?k_positions ?a_line_net ?l_line_net ?c_line_net ?k_line_net ?a_least_lines ?l_least_lines ?c_least_lines ?k_least_lines ?a_lines_from ?l_lines_from ?c_lines_from ?k_lines_from ?a_ends_from ?l_ends_from ?c_ends_from ?k_ends_from ?a_cost ?l_cost ?c_cost ?k_cost ?a_law_begin ?l_law_begin ?c_law_begin ?k_law_begin ?a_law_draw ?l_law_draw ?c_law_draw ?k_law_draw ?a_law_pick ?l_law_pick ?c_law_pick ?k_law_pick ?a_law_rare ?l_law_rare ?c_law_rare ?k_law_rare ?a_law_piece ?l_law_piece ?c_law_piece ?k_law_piece ?a_law_places ?l_law_places ?c_law_places ?k_law_places ?a_law_shape ?l_law_shape ?c_law_shape ?k_law_shape ?a_law_piece_width ?l_law_piece_width ?c_law_piece_width ?k_law_piece_width ?a_law_natural ?l_law_natural ?c_law_natural ?k_law_natural ?a_law_positions ?l_law_positions ?c_law_positions ?k_law_positions ?a_law_line_cost ?l_law_line_cost ?c_law_line_cost ?k_law_line_cost ?a_law_exact ?l_law_exact ?c_law_exact ?k_law_exact ?a_law_drawn_words ?l_law_drawn_words ?c_law_drawn_words ?k_law_drawn_words ?a_law_style_for ?l_law_style_for ?c_law_style_for ?k_law_style_for ?a_law_measure ?l_law_measure ?c_law_measure ?k_law_measure ?a_law_arcs ?l_law_arcs ?c_law_arcs ?k_law_arcs ?a_law_least_prices ?l_law_least_prices ?c_law_least_prices ?k_law_least_prices ?a_law_totals ?l_law_totals ?c_law_totals ?k_law_totals ?a_law_is_paper ?l_law_is_paper ?c_law_is_paper ?k_law_is_paper ?a_law_bent_paper ?l_law_bent_paper ?c_law_bent_paper ?k_law_bent_paper ?a_law_told_total ?l_law_told_total ?c_law_told_total ?k_law_told_total ?a_law_shut_out ?l_law_shut_out ?c_law_shut_out ?k_law_shut_out ?a_law ?l_law ?c_law ?k_law ?n_all ?n_bool ?n_enumerate ?n_int ?n_isinstance ?n_len ?n_list ?n_max ?n_min ?n_range ?n_sorted ?n_str ?n_sum ?n_tuple ?g_PagesError ?ic_PagesError ?ty_PagesError ?g_LimitError ?ic_LimitError ?ty_LimitError ?g_TooWide ?ic_TooWide ?ty_TooWide ?bx_PagesError ?o_hn ?o_ht ?xL_TooWide ?rv_TooWide ?sa_TooWide ?ga_TooWide ?gg_TooWide ?ex_TooWide ?kp_TooWide ?hd_TooWide ?ha_TooWide ?hm_TooWide ?vs_TooWide ?no_TooWide_part ?sb_TooWide_PagesError ?sb_TooWide_LimitError ?sb_TooWide_TooWide ?ii_TooWide ?ti_TooWide ?li_TooWide ?ci_TooWide ?ki_TooWide ?e_lam2 ?hd_lam2 ?no_lam2 ?ht_lam2 ?e_lam ?hd_lam ?no_lam ?ht_lam ?ne_lam
    (case a_bounds_of => k_is)
    (case l_bounds_of => k_is)
    (case c_bounds_of => k_is)
    (case k_bounds_of => k_is)
    (case a_judge_bounds => k_is)
    (case l_judge_bounds => k_is)
    (case c_judge_bounds => k_is)
    (case k_judge_bounds => k_is)
    (case a_least_way_along => k_is)
    (case l_least_way_along => k_is)
    (case c_least_way_along => k_is)
    (case k_least_way_along => k_is)
    (case a_leading => k_is)
    (case l_leading => k_is)
    (case c_leading => k_is)
    (case k_leading => k_is)
    (case a_bounds_and_tails => k_is)
    (case l_bounds_and_tails => k_is)
    (case c_bounds_and_tails => k_is)
    (case k_bounds_and_tails => k_is)
    (case a_piece_width => k_is)
    (case l_piece_width => k_is)
    (case c_piece_width => k_is)
    (case k_piece_width => k_is)
    (case a_positions => k_is)
    (case l_positions => k_is)
    (case c_positions => k_is)
    (case k_positions => k_is)
    (case a_line_net => k_is)
    (case l_line_net => k_is)
    (case c_line_net => k_is)
    (case k_line_net => k_is)
    (case a_least_lines => k_is)
    (case l_least_lines => k_is)
    (case c_least_lines => k_is)
    (case k_least_lines => k_is)
    (case a_lines_from => k_is)
    (case l_lines_from => k_is)
    (case c_lines_from => k_is)
    (case k_lines_from => k_is)
    (case a_ends_from => k_is)
    (case l_ends_from => k_is)
    (case c_ends_from => k_is)
    (case k_ends_from => k_is)
    (case a_cost => k_is)
    (case l_cost => k_is)
    (case c_cost => k_is)
    (case k_cost => k_is)
    (case a_law_begin => k_is)
    (case l_law_begin => k_is)
    (case c_law_begin => k_is)
    (case k_law_begin => k_is)
    (case a_law_draw => k_is)
    (case l_law_draw => k_is)
    (case c_law_draw => k_is)
    (case k_law_draw => k_is)
    (case a_law_pick => k_is)
    (case l_law_pick => k_is)
    (case c_law_pick => k_is)
    (case k_law_pick => k_is)
    (case a_law_rare => k_is)
    (case l_law_rare => k_is)
    (case c_law_rare => k_is)
    (case k_law_rare => k_is)
    (case a_law_piece => k_is)
    (case l_law_piece => k_is)
    (case c_law_piece => k_is)
    (case k_law_piece => k_is)
    (case a_law_places => k_is)
    (case l_law_places => k_is)
    (case c_law_places => k_is)
    (case k_law_places => k_is)
    (case a_law_shape => k_is)
    (case l_law_shape => k_is)
    (case c_law_shape => k_is)
    (case k_law_shape => k_is)
    (case a_law_piece_width => k_is)
    (case l_law_piece_width => k_is)
    (case c_law_piece_width => k_is)
    (case k_law_piece_width => k_is)
    (case a_law_natural => k_is)
    (case l_law_natural => k_is)
    (case c_law_natural => k_is)
    (case k_law_natural => k_is)
    (case a_law_positions => k_is)
    (case l_law_positions => k_is)
    (case c_law_positions => k_is)
    (case k_law_positions => k_is)
    (case a_law_line_cost => k_is)
    (case l_law_line_cost => k_is)
    (case c_law_line_cost => k_is)
    (case k_law_line_cost => k_is)
    (case a_law_exact => k_is)
    (case l_law_exact => k_is)
    (case c_law_exact => k_is)
    (case k_law_exact => k_is)
    (case a_law_drawn_words => k_is)
    (case l_law_drawn_words => k_is)
    (case c_law_drawn_words => k_is)
    (case k_law_drawn_words => k_is)
    (case a_law_style_for => k_is)
    (case l_law_style_for => k_is)
    (case c_law_style_for => k_is)
    (case k_law_style_for => k_is)
    (case a_law_measure => k_is)
    (case l_law_measure => k_is)
    (case c_law_measure => k_is)
    (case k_law_measure => k_is)
    (case a_law_arcs => k_is)
    (case l_law_arcs => k_is)
    (case c_law_arcs => k_is)
    (case k_law_arcs => k_is)
    (case a_law_least_prices => k_is)
    (case l_law_least_prices => k_is)
    (case c_law_least_prices => k_is)
    (case k_law_least_prices => k_is)
    (case a_law_totals => k_is)
    (case l_law_totals => k_is)
    (case c_law_totals => k_is)
    (case k_law_totals => k_is)
    (case a_law_is_paper => k_is)
    (case l_law_is_paper => k_is)
    (case c_law_is_paper => k_is)
    (case k_law_is_paper => k_is)
    (case a_law_bent_paper => k_is)
    (case l_law_bent_paper => k_is)
    (case c_law_bent_paper => k_is)
    (case k_law_bent_paper => k_is)
    (case a_law_told_total => k_is)
    (case l_law_told_total => k_is)
    (case c_law_told_total => k_is)
    (case k_law_told_total => k_is)
    (case a_law_shut_out => k_is)
    (case l_law_shut_out => k_is)
    (case c_law_shut_out => k_is)
    (case k_law_shut_out => k_is)
    (case a_law => k_is)
    (case l_law => k_is)
    (case c_law => k_is)
    (case k_law => k_is)
    (case n_all => k_is)
    (case n_bool => k_is)
    (case n_enumerate => k_is)
    (case n_int => k_is)
    (case n_isinstance => k_is)
    (case n_len => k_is)
    (case n_list => k_is)
    (case n_max => k_is)
    (case n_min => k_is)
    (case n_range => k_is)
    (case n_sorted => k_is)
    (case n_str => k_is)
    (case n_sum => k_is)
    (case n_tuple => k_is)
    (case g_PagesError => k_is)
    (case ic_PagesError => k_is)
    (case ty_PagesError => k_is)
    (case g_LimitError => k_is)
    (case ic_LimitError => k_is)
    (case ty_LimitError => k_is)
    (case g_TooWide => k_is)
    (case ic_TooWide => k_is)
    (case ty_TooWide => k_is)
    (case bx_PagesError => k_is)
    (case o_hn => k_is)
    (case o_ht => k_is)
    (case xL_TooWide => k_is)
    (case rv_TooWide => first | rfl | decide +kernel)
    (case sa_TooWide => k_is)
    (case ga_TooWide => k_is)
    (case gg_TooWide => k_is)
    (case ex_TooWide => k_is)
    (case kp_TooWide => k_is)
    (case hd_TooWide => k_is)
    (case ha_TooWide => k_is)
    (case hm_TooWide => k_is)
    (case vs_TooWide => k_is)
    (case no_TooWide_part => k_is)
    (case sb_TooWide_PagesError => k_is)
    (case sb_TooWide_LimitError => k_is)
    (case sb_TooWide_TooWide => k_is)
    (case ii_TooWide => k_is)
    (case ti_TooWide => k_is)
    (case li_TooWide => k_is)
    (case ci_TooWide => k_is)
    (case ki_TooWide => k_is)
    (case e_lam2 => exact rfl)
    (case hd_lam2 => kernel_rfl)
    (case no_lam2 => kernel_rfl)
    (case ht_lam2 => exact hTs _ (List.mem_of_elem_eq_true (by kernel_rfl)))
    (case e_lam => exact rfl)
    (case hd_lam => kernel_rfl)
    (case no_lam => kernel_rfl)
    (case ht_lam => exact hTs _ (List.mem_of_elem_eq_true (by kernel_rfl)))
    (case ne_lam => kernel_rfl)
