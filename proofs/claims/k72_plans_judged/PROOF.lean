import PyProof.Rows.All
import Wide.All
import OpenK.AllK
import Wide.FinOn
import HandS.ForMost
import HandS.IsInst
import HandS.Conv
import HandS.Evl
import PyProof.StrBlock2
import HandS.ExcInit
import HandS.ExcIs
import HandS.ExcField
import HandS.Wide
import HandS.SetBool
import HandS.Strs
import HandS.Walk
import HandS.Deep
import HandS.TupSets
import KE.DataMinMax
import PyProof.Rows.StrMul
import KE.SortData
import PyProof.Claim2Refuses
import KE.GoesEnum
import HandS.TupAny
import KE.GoesMore
import HandS.TupMul
import PySem.Challenge.RW_hushedpages_k72_plans_judged
set_option Elab.async false
set_option linter.all false
set_option maxRecDepth 100000
set_option maxHeartbeats 4000000
namespace Vf
open PySem PySem.Spec PyProof.Rows L2
def topS (i : Nat) : Stmt := PySem.Challenge.pw_hushedpages_k72_plans_judged.main.body.getD i (.Pass ⟨0, 0, 0, 0⟩)
abbrev s_is_safe : Stmt := topS 1
theorem sc_is_safe : FnScope ["scene", "members", "fillings", "counts", "watches", "groups", "guards", "group", "together", "secret", "least", "k"] ["scene", "members"] (defScope s_is_safe) := ⟨rfl, rfl, rfl, by decide +kernel, rfl, by decide +kernel, by decide +kernel⟩
abbrev s_finest : Stmt := topS 2
theorem sc_finest : FnScope ["scene", "views", "plan", "waiting", "level", "members", "parts", "k", "part"] ["scene", "views"] (defScope s_finest) := ⟨rfl, rfl, rfl, by decide +kernel, rfl, by decide +kernel, by decide +kernel⟩
abbrev s_reasons_of : Stmt := topS 3
theorem sc_reasons_of : FnScope ["scene", "views", "level", "members"] ["scene", "views"] (defScope s_reasons_of) := ⟨rfl, rfl, rfl, by decide +kernel, rfl, by decide +kernel, by decide +kernel⟩
abbrev s_ways_in : Stmt := topS 4
theorem sc_ways_in : FnScope ["counts", "fillings", "secret", "filling", "shape"] ["counts", "fillings", "secret"] (defScope s_ways_in) := ⟨rfl, rfl, rfl, by decide +kernel, rfl, by decide +kernel, by decide +kernel⟩
abbrev s_class_of : Stmt := topS 5
theorem sc_class_of : FnScope ["views", "level", "k", "other"] ["views", "level", "k"] (defScope s_class_of) := ⟨rfl, rfl, rfl, by decide +kernel, rfl, by decide +kernel, by decide +kernel⟩
abbrev s_classes_at : Stmt := topS 6
theorem sc_classes_at : FnScope ["views", "level", "members", "classes", "k", "value", "at", "found"] ["views", "level", "members"] (defScope s_classes_at) := ⟨rfl, rfl, rfl, by decide +kernel, rfl, by decide +kernel, by decide +kernel⟩
abbrev s_published : Stmt := topS 7
theorem sc_published : FnScope ["views", "plan", "classes", "k", "level", "members"] ["views", "plan"] (defScope s_published) := ⟨rfl, rfl, rfl, by decide +kernel, rfl, by decide +kernel, by decide +kernel⟩
abbrev s_lacks_of : Stmt := topS 8
theorem sc_lacks_of : FnScope ["scene", "part", "k", "fillings", "counts", "watches", "found", "watch", "groups", "guards", "together", "other", "secret", "least"] ["scene", "part", "k"] (defScope s_lacks_of) := ⟨rfl, rfl, rfl, by decide +kernel, rfl, by decide +kernel, by decide +kernel⟩
abbrev s_least_reason : Stmt := topS 9
theorem sc_least_reason : FnScope ["scene", "views", "level", "members", "reasons", "part", "k", "lack"] ["scene", "views", "level", "members"] (defScope s_least_reason) := ⟨rfl, rfl, rfl, by decide +kernel, rfl, by decide +kernel, by decide +kernel⟩
abbrev s_judge_plan : Stmt := topS 11
theorem sc_judge_plan : FnScope ["scene", "views", "plan", "paper", "classes", "above", "level", "_", "members", "reason"] ["scene", "views", "plan", "paper"] (defScope s_judge_plan) := ⟨rfl, rfl, rfl, by decide +kernel, rfl, by decide +kernel, by decide +kernel⟩
abbrev s_is_honest : Stmt := topS 12
theorem sc_is_honest : FnScope ["views", "plan", "k", "other"] ["views", "plan"] (defScope s_is_honest) := ⟨rfl, rfl, rfl, by decide +kernel, rfl, by decide +kernel, by decide +kernel⟩
abbrev s_is_right : Stmt := topS 13
theorem sc_is_right : FnScope ["scene", "views", "level", "members", "reason"] ["scene", "views", "level", "members", "reason"] (defScope s_is_right) := ⟨rfl, rfl, rfl, by decide +kernel, rfl, by decide +kernel, by decide +kernel⟩
abbrev s_law_begin : Stmt := topS 15
theorem sc_law_begin : FnScope ["_law_script"] ["_law_script"] (defScope s_law_begin) := ⟨rfl, rfl, rfl, by decide +kernel, rfl, by decide +kernel, by decide +kernel⟩
abbrev s_law_draw : Stmt := topS 16
theorem sc_law_draw : FnScope ["_law_d", "_law_many", "_law_cell", "_law_found"] ["_law_d", "_law_many"] (defScope s_law_draw) := ⟨rfl, rfl, rfl, by decide +kernel, rfl, by decide +kernel, by decide +kernel⟩
abbrev s_law_pick : Stmt := topS 17
theorem sc_law_pick : FnScope ["_law_d", "_law_row"] ["_law_d", "_law_row"] (defScope s_law_pick) := ⟨rfl, rfl, rfl, by decide +kernel, rfl, by decide +kernel, by decide +kernel⟩
abbrev s_law_rare : Stmt := topS 18
theorem sc_law_rare : FnScope ["_law_d", "_law_many"] ["_law_d", "_law_many"] (defScope s_law_rare) := ⟨rfl, rfl, rfl, by decide +kernel, rfl, by decide +kernel, by decide +kernel⟩
abbrev s_law_ways : Stmt := topS 19
theorem sc_law_ways : FnScope ["_law_counts", "_law_fillings", "_law_secret", "_law_seen", "_law_filling", "_law_shape"] ["_law_counts", "_law_fillings", "_law_secret"] (defScope s_law_ways) := ⟨rfl, rfl, rfl, by decide +kernel, rfl, by decide +kernel, by decide +kernel⟩
abbrev s_law_unsafe : Stmt := topS 20
theorem sc_law_unsafe : FnScope ["_law_scene", "_law_members", "_law_found", "_law_w", "_law_groups", "_law_guards", "_law_g", "_law_inside", "_law_k", "_law_s", "_law_least"] ["_law_scene", "_law_members"] (defScope s_law_unsafe) := ⟨rfl, rfl, rfl, by decide +kernel, rfl, by decide +kernel, by decide +kernel⟩
abbrev s_law_classes : Stmt := topS 21
theorem sc_law_classes : FnScope ["_law_views", "_law_members", "_law_level", "_law_found", "_law_values", "_law_k"] ["_law_views", "_law_members", "_law_level"] (defScope s_law_classes) := ⟨rfl, rfl, rfl, by decide +kernel, rfl, by decide +kernel, by decide +kernel⟩
abbrev s_law_finest : Stmt := topS 22
theorem sc_law_finest : FnScope ["_law_scene", "_law_views", "_law_plan", "_law_waiting", "_law_level", "_law_members", "_law_inner", "_law_k", "_law_one"] ["_law_scene", "_law_views"] (defScope s_law_finest) := ⟨rfl, rfl, rfl, by decide +kernel, rfl, by decide +kernel, by decide +kernel⟩
abbrev s_law_published : Stmt := topS 23
theorem sc_law_published : FnScope ["_law_views", "_law_plan", "_law_found", "_law_seen", "_law_k", "_law_one", "_law_n"] ["_law_views", "_law_plan"] (defScope s_law_published) := ⟨rfl, rfl, rfl, by decide +kernel, rfl, by decide +kernel, by decide +kernel⟩
abbrev s_law_reasons : Stmt := topS 24
theorem sc_law_reasons : FnScope ["_law_scene", "_law_views", "_law_plan", "_law_found", "_law_members", "_law_level", "_law_rows", "_law_one", "_law_w", "_law_g", "_law_s", "_law_k"] ["_law_scene", "_law_views", "_law_plan"] (defScope s_law_reasons) := ⟨rfl, rfl, rfl, by decide +kernel, rfl, by decide +kernel, by decide +kernel⟩
abbrev s_law_exact : Stmt := topS 25
theorem sc_law_exact : FnScope ["_law_told", "_law_due", "_law_k"] ["_law_told", "_law_due"] (defScope s_law_exact) := ⟨rfl, rfl, rfl, by decide +kernel, rfl, by decide +kernel, by decide +kernel⟩
abbrev s_law_plan_fillings : Stmt := topS 26
theorem sc_law_plan_fillings : FnScope ["_law_d", "_law_turns", "_law_sizes", "_law_counted", "_law_found", "_law_turn", "_law_one", "_law_left", "_law_many", "_law_s"] ["_law_d", "_law_turns"] (defScope s_law_plan_fillings) := ⟨rfl, rfl, rfl, by decide +kernel, rfl, by decide +kernel, by decide +kernel⟩
abbrev s_law_plan_chain : Stmt := topS 27
theorem sc_law_plan_chain : FnScope ["_law_d", "_law_n", "_law_levels", "_law_rows", "_law_level", "_law_row", "_law_turn", "_law_old", "_law_new", "_law_k", "_law_one"] ["_law_d", "_law_n", "_law_levels"] (defScope s_law_plan_chain) := ⟨rfl, rfl, rfl, by decide +kernel, rfl, by decide +kernel, by decide +kernel⟩
abbrev s_law_plan_counts : Stmt := topS 28
theorem sc_law_plan_counts : FnScope ["_law_d", "_law_sizes", "_law_fillings", "_law_great", "_law_counts", "_law_s", "_law_met", "_law_row", "_law_shape", "_law_low", "_law_one"] ["_law_d", "_law_sizes", "_law_fillings"] (defScope s_law_plan_counts) := ⟨rfl, rfl, rfl, by decide +kernel, rfl, by decide +kernel, by decide +kernel⟩
abbrev s_law_plan_groups : Stmt := topS 29
theorem sc_law_plan_groups : FnScope ["_law_d", "_law_n", "_law_many", "_law_seen", "_law_groups", "_law_k", "_law_mark"] ["_law_d", "_law_n"] (defScope s_law_plan_groups) := ⟨rfl, rfl, rfl, by decide +kernel, rfl, by decide +kernel, by decide +kernel⟩
abbrev s_law_plan_least : Stmt := topS 30
theorem sc_law_plan_least : FnScope ["_law_d", "_law_counts", "_law_fillings", "_law_inside", "_law_s", "_law_chain", "_law_total", "_law_row", "_law_mark", "_law_near", "_law_k"] ["_law_d", "_law_counts", "_law_fillings", "_law_inside", "_law_s", "_law_chain"] (defScope s_law_plan_least) := ⟨rfl, rfl, rfl, by decide +kernel, rfl, by decide +kernel, by decide +kernel⟩
abbrev s_law_plan_watch : Stmt := topS 31
theorem sc_law_plan_watch : FnScope ["_law_d", "_law_counts", "_law_fillings", "_law_chain", "_law_groups", "_law_guards", "_law_g", "_law_inside", "_law_row", "_law_s", "_law_k"] ["_law_d", "_law_counts", "_law_fillings", "_law_chain"] (defScope s_law_plan_watch) := ⟨rfl, rfl, rfl, by decide +kernel, rfl, by decide +kernel, by decide +kernel⟩
abbrev s_law_plan_scene : Stmt := topS 32
theorem sc_law_plan_scene : FnScope ["_law_d", "_law_sizes", "_law_fillings", "_law_chain", "_law_counts", "_law_watches", "_law_w"] ["_law_d", "_law_sizes", "_law_fillings", "_law_chain"] (defScope s_law_plan_scene) := ⟨rfl, rfl, rfl, by decide +kernel, rfl, by decide +kernel, by decide +kernel⟩
abbrev s_law_plan_value : Stmt := topS 33
theorem sc_law_plan_value : FnScope ["_law_kind", "_law_mark", "_law_menu"] ["_law_kind", "_law_mark"] (defScope s_law_plan_value) := ⟨rfl, rfl, rfl, by decide +kernel, rfl, by decide +kernel, by decide +kernel⟩
abbrev s_law_plan_views : Stmt := topS 34
theorem sc_law_plan_views : FnScope ["_law_d", "_law_chain", "_law_first", "_law_alike", "_law_kinds", "_law_views", "_law_k", "_law_row", "_law_level"] ["_law_d", "_law_chain"] (defScope s_law_plan_views) := ⟨rfl, rfl, rfl, by decide +kernel, rfl, by decide +kernel, by decide +kernel⟩
abbrev s_law_plan_rows : Stmt := topS 35
theorem sc_law_plan_rows : FnScope ["_law_scene", "_law_views", "_law_members", "_law_level", "_law_found", "_law_k", "_law_low", "_law_w", "_law_groups", "_law_guards", "_law_inside", "_law_secret", "_law_least", "_law_n"] ["_law_scene", "_law_views", "_law_members", "_law_level"] (defScope s_law_plan_rows) := ⟨rfl, rfl, rfl, by decide +kernel, rfl, by decide +kernel, by decide +kernel⟩
abbrev s_law_plan_takes : Stmt := topS 36
theorem sc_law_plan_takes : FnScope ["_law_scene", "_law_views", "_law_plan", "_law_paper", "_law_level", "_law_kept", "_law_k", "_law_members", "_law_r", "_law_n"] ["_law_scene", "_law_views", "_law_plan", "_law_paper"] (defScope s_law_plan_takes) := ⟨rfl, rfl, rfl, by decide +kernel, rfl, by decide +kernel, by decide +kernel⟩
abbrev s_law_plan_papers : Stmt := topS 37
theorem sc_law_plan_papers : FnScope ["_law_d", "_law_scene", "_law_views", "_law_plan", "_law_full", "_law_short", "_law_members", "_law_rows"] ["_law_d", "_law_scene", "_law_views", "_law_plan"] (defScope s_law_plan_papers) := ⟨rfl, rfl, rfl, by decide +kernel, rfl, by decide +kernel, by decide +kernel⟩
abbrev s_law_plan_tries : Stmt := topS 38
theorem sc_law_plan_tries : FnScope ["_law_d", "_law_chain", "_law_best", "_law_n", "_law_levels", "_law_total", "_law_k", "_law_found", "_law_row", "_law_level", "_law_turn", "_law_number", "_law_m"] ["_law_d", "_law_chain", "_law_best"] (defScope s_law_plan_tries) := ⟨rfl, rfl, rfl, by decide +kernel, rfl, by decide +kernel, by decide +kernel⟩
abbrev s_law_plan_number : Stmt := topS 39
theorem sc_law_plan_number : FnScope ["_law_number", "_law_n", "_law_levels", "_law_plan", "_law_k"] ["_law_number", "_law_n", "_law_levels"] (defScope s_law_plan_number) := ⟨rfl, rfl, rfl, by decide +kernel, rfl, by decide +kernel, by decide +kernel⟩
abbrev s_law_plan_bad : Stmt := topS 40
theorem sc_law_plan_bad : FnScope ["_law_d", "_law_right", "_law_many"] ["_law_d", "_law_right", "_law_many"] (defScope s_law_plan_bad) := ⟨rfl, rfl, rfl, by decide +kernel, rfl, by decide +kernel, by decide +kernel⟩
abbrev s_law_plan_spoilt : Stmt := topS 41
theorem sc_law_plan_spoilt : FnScope ["_law_d", "_law_paper", "_law_sizes", "_law_found", "_law_r", "_law_place", "_law_row"] ["_law_d", "_law_paper", "_law_sizes"] (defScope s_law_plan_spoilt) := ⟨rfl, rfl, rfl, by decide +kernel, rfl, by decide +kernel, by decide +kernel⟩
abbrev s_law_plan_bent : Stmt := topS 42
theorem sc_law_plan_bent : FnScope ["_law_d", "_law_plan", "_law_levels", "_law_found", "_law_k", "_law_level"] ["_law_d", "_law_plan", "_law_levels"] (defScope s_law_plan_bent) := ⟨rfl, rfl, rfl, by decide +kernel, rfl, by decide +kernel, by decide +kernel⟩
abbrev s_law_plan_asked : Stmt := topS 43
theorem sc_law_plan_asked : FnScope ["_law_scene", "_law_views", "_law_plan", "_law_paper"] ["_law_scene", "_law_views", "_law_plan", "_law_paper"] (defScope s_law_plan_asked) := ⟨rfl, rfl, rfl, by decide +kernel, rfl, by decide +kernel, by decide +kernel⟩
abbrev s_law : Stmt := topS 44
theorem sc_law : FnScope ["_law_script", "_law_d", "_law_sizes", "_law_fillings", "_law_chain", "_law_scene", "_law_views", "_law_best", "_law_plan", "_law_paper", "_law_one"] ["_law_script"] (defScope s_law) := ⟨rfl, rfl, rfl, by decide +kernel, rfl, by decide +kernel, by decide +kernel⟩
structure DefAt (K : PySem.W.Frag) (mg : Str → Option Value) (x : Str) (st : Stmt) (ps : List Str) (f : Addr) (fd : FuncData) : Prop where
  F : Fun K x x st f fd
  G : mg x = some (.ref f)
  B : Binds K fd ps []
  E : ∃ kV doc pm an cdv ct, fd = PySem.W.fnOf x x (defArgs st) (defBody st) (defScope st) .none kV doc pm an cdv ct
structure Txt (K : PySem.W.Frag) (mg : Str → Option Value) where
  a_is_safe : Addr
  d_is_safe : FuncData
  D_is_safe : DefAt K mg "is_safe" s_is_safe ["scene", "members"] a_is_safe d_is_safe
  a_finest : Addr
  d_finest : FuncData
  D_finest : DefAt K mg "finest" s_finest ["scene", "views"] a_finest d_finest
  a_reasons_of : Addr
  d_reasons_of : FuncData
  D_reasons_of : DefAt K mg "reasons_of" s_reasons_of ["scene", "views"] a_reasons_of d_reasons_of
  a_ways_in : Addr
  d_ways_in : FuncData
  D_ways_in : DefAt K mg "ways_in" s_ways_in ["counts", "fillings", "secret"] a_ways_in d_ways_in
  a_class_of : Addr
  d_class_of : FuncData
  D_class_of : DefAt K mg "class_of" s_class_of ["views", "level", "k"] a_class_of d_class_of
  a_classes_at : Addr
  d_classes_at : FuncData
  D_classes_at : DefAt K mg "classes_at" s_classes_at ["views", "level", "members"] a_classes_at d_classes_at
  a_published : Addr
  d_published : FuncData
  D_published : DefAt K mg "published" s_published ["views", "plan"] a_published d_published
  a_lacks_of : Addr
  d_lacks_of : FuncData
  D_lacks_of : DefAt K mg "lacks_of" s_lacks_of ["scene", "part", "k"] a_lacks_of d_lacks_of
  a_least_reason : Addr
  d_least_reason : FuncData
  D_least_reason : DefAt K mg "_least_reason" s_least_reason ["scene", "views", "level", "members"] a_least_reason d_least_reason
  a_judge_plan : Addr
  d_judge_plan : FuncData
  D_judge_plan : DefAt K mg "judge_plan" s_judge_plan ["scene", "views", "plan", "paper"] a_judge_plan d_judge_plan
  a_is_honest : Addr
  d_is_honest : FuncData
  D_is_honest : DefAt K mg "_is_honest" s_is_honest ["views", "plan"] a_is_honest d_is_honest
  a_is_right : Addr
  d_is_right : FuncData
  D_is_right : DefAt K mg "_is_right" s_is_right ["scene", "views", "level", "members", "reason"] a_is_right d_is_right
  a_law_begin : Addr
  d_law_begin : FuncData
  D_law_begin : DefAt K mg "_law_begin" s_law_begin ["_law_script"] a_law_begin d_law_begin
  a_law_draw : Addr
  d_law_draw : FuncData
  D_law_draw : DefAt K mg "_law_draw" s_law_draw ["_law_d", "_law_many"] a_law_draw d_law_draw
  a_law_pick : Addr
  d_law_pick : FuncData
  D_law_pick : DefAt K mg "_law_pick" s_law_pick ["_law_d", "_law_row"] a_law_pick d_law_pick
  a_law_rare : Addr
  d_law_rare : FuncData
  D_law_rare : DefAt K mg "_law_rare" s_law_rare ["_law_d", "_law_many"] a_law_rare d_law_rare
  a_law_ways : Addr
  d_law_ways : FuncData
  D_law_ways : DefAt K mg "_law_ways" s_law_ways ["_law_counts", "_law_fillings", "_law_secret"] a_law_ways d_law_ways
  a_law_unsafe : Addr
  d_law_unsafe : FuncData
  D_law_unsafe : DefAt K mg "_law_unsafe" s_law_unsafe ["_law_scene", "_law_members"] a_law_unsafe d_law_unsafe
  a_law_classes : Addr
  d_law_classes : FuncData
  D_law_classes : DefAt K mg "_law_classes" s_law_classes ["_law_views", "_law_members", "_law_level"] a_law_classes d_law_classes
  a_law_finest : Addr
  d_law_finest : FuncData
  D_law_finest : DefAt K mg "_law_finest" s_law_finest ["_law_scene", "_law_views"] a_law_finest d_law_finest
  a_law_published : Addr
  d_law_published : FuncData
  D_law_published : DefAt K mg "_law_published" s_law_published ["_law_views", "_law_plan"] a_law_published d_law_published
  a_law_reasons : Addr
  d_law_reasons : FuncData
  D_law_reasons : DefAt K mg "_law_reasons" s_law_reasons ["_law_scene", "_law_views", "_law_plan"] a_law_reasons d_law_reasons
  a_law_exact : Addr
  d_law_exact : FuncData
  D_law_exact : DefAt K mg "_law_exact" s_law_exact ["_law_told", "_law_due"] a_law_exact d_law_exact
  a_law_plan_fillings : Addr
  d_law_plan_fillings : FuncData
  D_law_plan_fillings : DefAt K mg "_law_plan_fillings" s_law_plan_fillings ["_law_d", "_law_turns"] a_law_plan_fillings d_law_plan_fillings
  a_law_plan_chain : Addr
  d_law_plan_chain : FuncData
  D_law_plan_chain : DefAt K mg "_law_plan_chain" s_law_plan_chain ["_law_d", "_law_n", "_law_levels"] a_law_plan_chain d_law_plan_chain
  a_law_plan_counts : Addr
  d_law_plan_counts : FuncData
  D_law_plan_counts : DefAt K mg "_law_plan_counts" s_law_plan_counts ["_law_d", "_law_sizes", "_law_fillings"] a_law_plan_counts d_law_plan_counts
  a_law_plan_groups : Addr
  d_law_plan_groups : FuncData
  D_law_plan_groups : DefAt K mg "_law_plan_groups" s_law_plan_groups ["_law_d", "_law_n"] a_law_plan_groups d_law_plan_groups
  a_law_plan_least : Addr
  d_law_plan_least : FuncData
  D_law_plan_least : DefAt K mg "_law_plan_least" s_law_plan_least ["_law_d", "_law_counts", "_law_fillings", "_law_inside", "_law_s", "_law_chain"] a_law_plan_least d_law_plan_least
  a_law_plan_watch : Addr
  d_law_plan_watch : FuncData
  D_law_plan_watch : DefAt K mg "_law_plan_watch" s_law_plan_watch ["_law_d", "_law_counts", "_law_fillings", "_law_chain"] a_law_plan_watch d_law_plan_watch
  a_law_plan_scene : Addr
  d_law_plan_scene : FuncData
  D_law_plan_scene : DefAt K mg "_law_plan_scene" s_law_plan_scene ["_law_d", "_law_sizes", "_law_fillings", "_law_chain"] a_law_plan_scene d_law_plan_scene
  a_law_plan_value : Addr
  d_law_plan_value : FuncData
  D_law_plan_value : DefAt K mg "_law_plan_value" s_law_plan_value ["_law_kind", "_law_mark"] a_law_plan_value d_law_plan_value
  a_law_plan_views : Addr
  d_law_plan_views : FuncData
  D_law_plan_views : DefAt K mg "_law_plan_views" s_law_plan_views ["_law_d", "_law_chain"] a_law_plan_views d_law_plan_views
  a_law_plan_rows : Addr
  d_law_plan_rows : FuncData
  D_law_plan_rows : DefAt K mg "_law_plan_rows" s_law_plan_rows ["_law_scene", "_law_views", "_law_members", "_law_level"] a_law_plan_rows d_law_plan_rows
  a_law_plan_takes : Addr
  d_law_plan_takes : FuncData
  D_law_plan_takes : DefAt K mg "_law_plan_takes" s_law_plan_takes ["_law_scene", "_law_views", "_law_plan", "_law_paper"] a_law_plan_takes d_law_plan_takes
  a_law_plan_papers : Addr
  d_law_plan_papers : FuncData
  D_law_plan_papers : DefAt K mg "_law_plan_papers" s_law_plan_papers ["_law_d", "_law_scene", "_law_views", "_law_plan"] a_law_plan_papers d_law_plan_papers
  a_law_plan_tries : Addr
  d_law_plan_tries : FuncData
  D_law_plan_tries : DefAt K mg "_law_plan_tries" s_law_plan_tries ["_law_d", "_law_chain", "_law_best"] a_law_plan_tries d_law_plan_tries
  a_law_plan_number : Addr
  d_law_plan_number : FuncData
  D_law_plan_number : DefAt K mg "_law_plan_number" s_law_plan_number ["_law_number", "_law_n", "_law_levels"] a_law_plan_number d_law_plan_number
  a_law_plan_bad : Addr
  d_law_plan_bad : FuncData
  D_law_plan_bad : DefAt K mg "_law_plan_bad" s_law_plan_bad ["_law_d", "_law_right", "_law_many"] a_law_plan_bad d_law_plan_bad
  a_law_plan_spoilt : Addr
  d_law_plan_spoilt : FuncData
  D_law_plan_spoilt : DefAt K mg "_law_plan_spoilt" s_law_plan_spoilt ["_law_d", "_law_paper", "_law_sizes"] a_law_plan_spoilt d_law_plan_spoilt
  a_law_plan_bent : Addr
  d_law_plan_bent : FuncData
  D_law_plan_bent : DefAt K mg "_law_plan_bent" s_law_plan_bent ["_law_d", "_law_plan", "_law_levels"] a_law_plan_bent d_law_plan_bent
  a_law_plan_asked : Addr
  d_law_plan_asked : FuncData
  D_law_plan_asked : DefAt K mg "_law_plan_asked" s_law_plan_asked ["_law_scene", "_law_views", "_law_plan", "_law_paper"] a_law_plan_asked d_law_plan_asked
  a_law : Addr
  d_law : FuncData
  D_law : DefAt K mg "law" s_law ["_law_script"] a_law d_law
  n_all : mg "all" = none
  n_bool : mg "bool" = none
  n_enumerate : mg "enumerate" = none
  n_int : mg "int" = none
  n_isinstance : mg "isinstance" = none
  n_len : mg "len" = none
  n_list : mg "list" = none
  n_max : mg "max" = none
  n_min : mg "min" = none
  n_range : mg "range" = none
  n_sorted : mg "sorted" = none
  n_str : mg "str" = none
  n_sum : mg "sum" = none
  n_tuple : mg "tuple" = none
  n_zip : mg "zip" = none
/-! ### the dice -/
/-- at d the dice, at l the script's copy -/
structure DI (d l : Addr) (H : Hp) : Prop where
  ne : l ≠ d
  sc : ∃ ns : List Int, H l = some (.lst (ns.map V.int))
  st : ∃ i b s c : Int, 0 ≤ i ∧ H d = some (.lst [.ref l, .int i, .int b, .int s, .int c])
/-- all but the dice stands -/
def Kp (d : Addr) (H H' : Hp) : Prop := ∀ b o, b ≠ d → H b = some o → H' b = some o
theorem Kp.refl (d : Addr) (H : Hp) : Kp d H H := fun _ _ _ h => h
theorem Kp.trans {d : Addr} {H H1 H2 : Hp} (a : Kp d H H1) (b : Kp d H1 H2) : Kp d H H2 := fun x o n h => b x o n (a x o n h)
theorem Kp.upd {d : Addr} {H H' : Hp} {o : HO} (a : Kp d H H') : Kp d H (upd H' d o) := fun x u n h => by
  rw [upd_ne n]; exact a x u n h
theorem Kp.new {d p : Addr} {H H' : Hp} {o : HO} (a : Kp d H H') (hp : H' p = none) : Kp d H (L2.upd H' p o) := fun x u n h => by
  have h2 := a x u n h
  rw [upd_ne (ne_of_none h2 hp)]; exact h2
theorem Kp.mut {d p : Addr} {H H' : Hp} {o : HO} (a : Kp d H H') (hp : H p = none) : Kp d H (L2.upd H' p o) := fun x u n h => by
  rw [upd_ne (ne_of_none h hp)]; exact a x u n h
theorem Kp.sq {K : PySem.W.Frag} {d a : Addr} {H H' : Hp} {xs : List V} (k : Kp d H H') (n : a ≠ d) (h : SqL K H a xs) : SqL K H' a xs := by
  rcases h with (h | ⟨o, h⟩) | h
  · exact .inl (.inl (k _ _ n h))
  · exact .inl (.inr ⟨o, k _ _ n h⟩)
  · exact .inr h
theorem DI.keep {d l : Addr} {H H' : Hp} (h : DI d l H) (e : ∀ b o, H b = some o → H' b = some o) : DI d l H' := by
  obtain ⟨n, ⟨ns, h1⟩, i, b, s, c, h0, h2⟩ := h
  exact ⟨n, ⟨ns, e _ _ h1⟩, i, b, s, c, h0, e _ _ h2⟩
theorem DI.at {d l p : Addr} {H : Hp} {o : HO} (h : DI d l H) (n1 : p ≠ d) (n2 : p ≠ l) : DI d l (upd H p o) := by
  obtain ⟨n, ⟨ns, h1⟩, i, b, s, c, h0, h2⟩ := h
  exact ⟨n, ⟨ns, by rw [upd_ne n2.symm]; exact h1⟩, i, b, s, c, h0, by rw [upd_ne n1.symm]; exact h2⟩
theorem DI.new {d l p : Addr} {H : Hp} {o : HO} (h : DI d l H) (hp : H p = none) : DI d l (upd H p o) :=
  h.keep fun b u e => by rw [upd_ne (ne_of_none e hp)]; exact e
theorem DI.nd {d l p : Addr} {H : Hp} (h : DI d l H) (hp : H p = none) : p ≠ d ∧ p ≠ l := by
  obtain ⟨n, ⟨ns, h1⟩, i, b, s, c, h0, h2⟩ := h
  exact ⟨fun e => (by rw [e, h2] at hp; cases hp), fun e => (by rw [e, h1] at hp; cases hp)⟩
theorem DI.set {d l : Addr} {H : Hp} {i b s c : Int} (h : DI d l H) (h0 : 0 ≤ i) : DI d l (upd H d (.lst [.ref l, .int i, .int b, .int s, .int c])) := by
  obtain ⟨n, ⟨ns, h1⟩, _⟩ := h
  exact ⟨n, ⟨ns, by rw [upd_ne n]; exact h1⟩, i, b, s, c, h0, upd_same⟩
section
variable {P : Program} {w : World} {K : PySem.W.Frag} {mg : Str → Option Value} {base : Heap}
/-! ### begin -/
def spBegin (K : PySem.W.Frag) : Sp := fun vs H Q _ => ∃ (a : Addr) (ns : List Int), vs = [.ref a] ∧ SqL K H a (ns.map V.int) ∧ ns.length ≤ 63 ∧
  ∀ H' d l, Same H H' → DI d l H' → Q (.ref d) H'
theorem ok_begin (T : Txt K mg) : FnOk P w K mg base CX0 1 T.a_law_begin T.d_law_begin ["_law_script"] (spBegin K) := by
  refine T.D_law_begin.F.ok sc_law_begin (fun vs H Q E h => ?_) (fun cdv A outer s H vs Q E hr h => ?_)
  · obtain ⟨a, ns, rfl, _⟩ := h
    rfl
  · obtain ⟨a, ns, rfl, hS, hl, q⟩ := h
    refine ⟨_, (pss_one (ps_ret (pe_lst (pa_cons (pe_callTy call_list_of (by rfl) T.n_list (by decide +kernel) (pa_cons (pv 0) pa_nil)) (pa_cons pe_int (pa_cons pe_int (pa_cons pe_int (pa_cons pe_int pa_nil)))))))), ?_⟩
    refine ⟨_, rfl, a, _, rfl, .inl hS, fun l nl => ?_⟩
    refine ⟨by show 5 ≤ sizeLine; decide, fun d nd => ?_⟩
    refine q _ d l (fun b o e => ?_) ?_
    · have n1 : b ≠ l := ne_of_none e nl
      have e1 : upd H l (.lst (ns.map V.int)) b = some o := by rw [upd_ne n1]; exact e
      rw [upd_ne (ne_of_none e1 nd)]
      exact e1
    · have e1 : upd H l (.lst (ns.map V.int)) l = some (.lst (ns.map V.int)) := upd_same
      have n1 : l ≠ d := ne_of_none e1 nd
      exact ⟨n1, ⟨ns, by rw [upd_ne n1]; exact e1⟩, 0, 0, 7, 0, by decide, upd_same⟩
/-! ### draw -/
def spDraw : Sp := fun vs H Q _ => ∃ (d l : Addr) (m : Int), vs = [.ref d, .int m] ∧ DI d l H ∧ m ≤ 1099511627776 ∧
  ∀ H' r, Kp d H H' → DI d l H' → (m < 2 → r = 0) → (2 ≤ m → 0 ≤ r ∧ r < m) → Q (.int r) H'
theorem ok_draw (T : Txt K mg) : FnOk P w K mg base CX0 1 T.a_law_draw T.d_law_draw ["_law_d", "_law_many"] spDraw := by
  refine T.D_law_draw.F.ok sc_law_draw (fun vs H Q E h => ?_) (fun cdv A outer s H vs Q E hr h => ?_)
  · obtain ⟨d, l, m, rfl, _⟩ := h
    rfl
  · obtain ⟨d, l, m, rfl, hD, hm, q⟩ := h
    refine ⟨_, (pss_cons (ps_if (pt_cmpR op_lt (pv 1) pe_int (nomark _)) (pss_one (ps_ret pe_int)) pss_nil)
      (pss_cons (ps_set (i := 2) sc_law_draw.nd rfl (.inl rfl) (pe_op op_add (pe_op op_mul (pe_ix ix_list (pv 0) pe_int (fun _ _ => rfl)) pe_int) pe_int))
      (Evl.pss_cut (ps_if (PW.pt (pw_and (pt_cmpR op_eq (pe_ix ix_list (pv 0) pe_int (fun _ _ => rfl)) pe_int (nomark _)) (pw_and1 (pt_cmpR op_lt (pe_ix ix_list (pv 0) pe_int (fun _ _ => rfl)) (pe_callB call_len_seq (by rfl) T.n_len PySem.boot_len (pa_cons (pe_ix ix_list (pv 0) pe_int (fun _ _ => rfl)) pa_nil)) (nomark _))))) (pss_cons (ps_set (i := 2) sc_law_draw.nd rfl (.inl rfl) (pe_ix ix_list (pe_ix ix_list (pv 0) pe_int (fun _ _ => rfl)) (pe_ix ix_list (pv 0) pe_int (fun _ _ => rfl)) (fun _ _ => rfl)))
      (pss_cons (ps_asg (pe_op op_add (pe_ix ix_list (pv 0) pe_int (fun _ _ => rfl)) pe_int) (pg_sub (pv 0) pe_int set_list))
      (Evl.pss_cut (ps_if (pt_cmpR op_lt (pv 2) pe_int (nomark _)) (pss_one (ps_set (i := 2) sc_law_draw.nd rfl (.inl rfl) (pe_op op_sub pe_int (pe_op op_mul pe_int (pv 2))))) pss_nil)
      (pss_one (ps_if (pt_cmpR op_ge (pv 2) pe_int (nomark _)) (pss_cons (ps_set (i := 2) sc_law_draw.nd rfl (.inl rfl) (pe_op op_and (pv 2) (pe_op op_sub (pe_op op_shl pe_int pe_int) pe_int)))
      (pss_one (ps_asg (pv 2) (pg_sub (pv 0) pe_int set_list)))) pss_nil))))) pss_nil)
      (pss_cons (ps_if (pt_cmpR op_gt (pe_ix ix_list (pv 0) pe_int (fun _ _ => rfl)) pe_int (nomark _)) (pss_cons (ps_set (i := 3) sc_law_draw.nd rfl (.inl rfl) (pe_op op_modN (pe_callTy call_int1 (by rfl) T.n_int (by decide +kernel) (pa_cons (pe_ix ix_list (pv 0) pe_int (fun _ _ => rfl)) pa_nil)) (pv 1)))
      (pss_cons (ps_asg (pe_op op_fdivW (pe_ix ix_list (pv 0) pe_int (fun _ _ => rfl)) (pv 1)) (pg_sub (pv 0) pe_int set_list))
      (pss_one (ps_ret (pv 3))))) pss_nil)
      (pss_cons (ps_asg (pe_op op_add (pe_ix ix_list (pv 0) pe_int (fun _ _ => rfl)) pe_int) (pg_sub (pv 0) pe_int set_list))
      (pss_cons (ps_asg (pe_op op_modN (pe_callTy call_int1 (by rfl) T.n_int (by decide +kernel) (pa_cons (pe_op op_add (pe_op op_add (pe_op op_mul (pe_ix ix_list (pv 0) pe_int (fun _ _ => rfl)) pe_int) (pe_op op_mul (pv 2) pe_int)) (pe_op op_mul (pe_ix ix_list (pv 0) pe_int (fun _ _ => rfl)) pe_int)) pa_nil)) pe_int) (pg_sub (pv 0) pe_int set_list))
      (pss_one (ps_ret (pe_op op_modN (pe_callTy call_int1 (by rfl) T.n_int (by decide +kernel) (pa_cons (pe_op op_modN (pe_callTy call_int1 (by rfl) T.n_int (by decide +kernel) (pa_cons (pe_op op_add (pe_op op_add (pe_op op_mul (pe_ix ix_list (pv 0) pe_int (fun _ _ => rfl)) pe_int) (pe_op op_mul (pe_ix ix_list (pv 0) pe_int (fun _ _ => rfl)) pe_int)) pe_int) pa_nil)) pe_int) pa_nil)) (pv 1)))))))))), ?_⟩
    refine ⟨_, rfl, _, _, rfl, rfl, _, rfl, ite2 (fun e => ?_) (fun e => ?_)⟩
    · have e := of_decide_eq_true e
      exact q H 0 (Kp.refl d H) hD (fun _ => rfl) (fun z => by omega)
    have hm2 : 2 ≤ m := by
      have e2 : ¬ m < 2 := fun z => e (decide_eq_true z)
      omega
    have hmN : m ≠ 0 := by omega
    have hmA : m.natAbs < 2 ^ 41 := by omega
    have fm : ∀ z : Int, 0 ≤ z.fmod m ∧ z.fmod m < m := fun z => ⟨Int.fmod_nonneg_of_pos z (by omega), Int.fmod_lt_of_pos z (by omega)⟩
    obtain ⟨n, ⟨ns, h1⟩, i, b, s5, c, h0, h2⟩ := id hD
    -- cell = d[4] * 977 + 3
    refine ⟨_, rfl, _, _, _, _, rfl, rfl, SqL.of h2, rfl, _, _, rfl, rfl, .inr ⟨by decide, by decide⟩, _, _, rfl, rfl, ?_⟩
    refine ⟨fun σ' H' => ∃ (cell : Int) (x3 : Option V), σ' = [some (.ref d), some (.int m), some (.int cell), x3] ∧ Kp d H H' ∧ DI d l H', ?_, ?_⟩
    · -- the cell
      refine ⟨_, rfl, _, _, _, _, rfl, rfl, SqL.of h2, rfl, rfl, _, rfl, ite2 (fun e1 => ?_) (fun e1 => ?_)⟩
      · refine ⟨_, rfl, _, _, _, _, rfl, rfl, SqL.of h2, rfl, _, rfl, _, _, _, _, rfl, rfl, SqL.of h2, rfl, _, _, rfl, .inl (SqL.of h1), _, _, rfl, rfl, _, rfl, ite2 (fun e2 => ?_) (fun e2 => ?_)⟩
        · have e2 := of_decide_eq_true e2
          rw [List.length_map] at e2
          obtain ⟨j, rfl⟩ : ∃ j : Nat, i = (j : Int) := ⟨i.toNat, by omega⟩
          have hj : j < ns.length := by omega
          have gj : (ns.map V.int)[j]? = some (.int ns[j]) := by
            rw [List.getElem?_map, List.getElem?_eq_getElem hj]; rfl
          refine ⟨_, rfl, _, _, _, _, rfl, rfl, SqL.of h2, rfl, _, rfl, _, _, _, _, rfl, rfl, SqL.of h2, rfl, _, _, _, _, rfl, rfl, SqL.of h1, atI_nat gj, ?_⟩
          -- d[1] = d[1] + 1
          refine ⟨_, rfl, _, _, _, _, rfl, rfl, SqL.of h2, rfl, _, _, rfl, rfl, _, rfl, _, _, _, _, rfl, rfl, h2, rfl, ?_⟩
          have D1 := hD.set (i := (j : Int) + 1) (b := b) (s := s5) (c := c) (by omega)
          have K1 : Kp d H (upd H d (.lst [.ref l, .int ((j : Int) + 1), .int b, .int s5, .int c])) := (Kp.refl d H).upd
          refine ⟨fun σ' H' => ∃ (cell : Int) (x3 : Option V), σ' = [some (.ref d), some (.int m), some (.int cell), x3] ∧ H' = upd H d (.lst [.ref l, .int ((j : Int) + 1), .int b, .int s5, .int c]), ?_, ?_⟩
          · refine ⟨_, rfl, _, _, rfl, rfl, _, rfl, ite2 (fun _ => ?_) (fun _ => ?_)⟩
            · exact ⟨_, rfl, _, _, rfl, rfl, .inl ⟨by decide, by decide⟩, _, _, rfl, rfl, _, _, rfl, rfl⟩
            · exact ⟨_, _, rfl, rfl⟩
          · rintro σ' H' ⟨cell, x3, rfl, rfl⟩
            refine ⟨_, rfl, _, _, rfl, rfl, _, rfl, ite2 (fun _ => ?_) (fun _ => ?_)⟩
            · refine ⟨_, rfl, _, _, rfl, rfl, ⟨by decide, by decide, by decide⟩, _, _, rfl, rfl, _, _, rfl, rfl, ?_⟩
              refine ⟨_, rfl, _, rfl, _, _, _, _, rfl, rfl, upd_same, rfl, ?_⟩
              exact ⟨_, _, rfl, K1.upd, D1.set (by omega)⟩
            · exact ⟨_, _, rfl, K1, D1⟩
        · exact ⟨_, _, rfl, Kp.refl d H, hD⟩
      · exact ⟨_, _, rfl, Kp.refl d H, hD⟩
    · rintro σ' H1 ⟨cell, x3, rfl, K1, D1⟩
      obtain ⟨n, ⟨ns, h1⟩, i, b, s5, c, h0, h2⟩ := id D1
      refine ⟨_, rfl, _, _, _, _, rfl, rfl, SqL.of h2, rfl, _, _, rfl, rfl, _, rfl, ite2 (fun e1 => ?_) (fun e1 => ?_)⟩
      · refine ⟨_, rfl, _, _, _, _, rfl, rfl, SqL.of h2, rfl, .inl ⟨_, rfl, _, rfl, _, _, rfl, rfl, hmN, ?_⟩⟩
        refine ⟨_, rfl, _, _, _, _, rfl, rfl, SqL.of h2, rfl, _, rfl, _, _, rfl, rfl, wide_div (b := 41) (by omega) (by omega) (by decide) (by decide), _, rfl, _, _, _, _, rfl, rfl, h2, rfl, ?_⟩
        exact ⟨_, rfl, q _ _ K1.upd (D1.set h0) (fun z => by omega) (fun _ => fm _)⟩
      · refine ⟨_, rfl, _, _, _, _, rfl, rfl, SqL.of h2, rfl, _, _, rfl, rfl, _, rfl, _, _, _, _, rfl, rfl, h2, rfl, ?_⟩
        refine ⟨_, rfl, _, _, _, _, rfl, rfl, SqL.of upd_same, rfl, _, _, rfl, rfl, .inr ⟨by decide, by decide⟩, _, rfl, _, _, rfl, rfl, .inr ⟨by decide, by decide⟩, _, _, rfl, rfl, _, rfl, _, _, _, _, rfl, rfl, SqL.of upd_same, rfl, _, _, rfl, rfl, .inr ⟨by decide, by decide⟩, _, _, rfl, rfl, .inl ⟨_, rfl, _, _, rfl, rfl, (by show (2147483647 : Int) ≠ 0; decide), _, rfl, _, _, _, _, rfl, rfl, upd_same, rfl, ?_⟩⟩
        refine ⟨_, rfl, _, _, _, _, rfl, rfl, SqL.of upd_same, rfl, _, _, rfl, rfl, .inr ⟨by decide, by decide⟩, _, rfl, _, _, _, _, rfl, rfl, SqL.of upd_same, rfl, _, _, rfl, rfl, .inr ⟨by decide, by decide⟩, _, _, rfl, rfl, _, _, rfl, rfl, .inl ⟨_, rfl, _, _, rfl, rfl, (by show (2147483399 : Int) ≠ 0; decide), .inl ⟨_, rfl, _, rfl, _, _, rfl, rfl, hmN, ?_⟩⟩⟩
        exact q _ _ K1.upd.upd ((D1.set h0).set h0) (fun z => by omega) (fun _ => fm _)
end
end Vf

set_option Elab.async false
set_option linter.all false
set_option maxRecDepth 100000
set_option maxHeartbeats 4000000
namespace Vf
open PySem PySem.Spec PyProof.Rows L2 TL
/-! ### the mathematics of tokens -/
def sW : Str := "abcdefghijklmnopqrstuvwxyz0123456789.,:;!?'()+=<>*/"
def sL : Str := "abcdefghijklmnopqrstuvwxyz"
def sB : Str := " \n"
def sOdd : Str := "\"#$&-ABCDEFGHIJKLMNOPQRSTUVWXYZ[\\]^_`|~"
def cW (c : Nat) : Bool := decide (c ∈ sW.cps.toList)
def cL (c : Nat) : Bool := decide (c ∈ sL.cps.toList)
def cB (c : Nat) : Bool := decide (c ∈ sB.cps.toList)
/-- the text of these signs -/
def mkS (zs : List Nat) : Str := ⟨zs.toArray⟩
def sV (zs : List Nat) : V := .str (mkS zs)
theorem mkS_cps (zs : List Nat) : (mkS zs).cps.toList = zs := rfl
theorem mkS_of (z : Str) : mkS z.cps.toList = z := rfl
theorem mkS_len (zs : List Nat) : (mkS zs).length = zs.length := by simp [mkS, Str.length]
theorem len_cps (z : Str) : z.length = z.cps.toList.length := by simp [Str.length]
theorem mkS_app (a b : List Nat) : mkS a ++ mkS b = mkS (a ++ b) := by
  have h : (mkS a ++ mkS b).cps.toList = a ++ b := by rw [Str.cps_append, Array.toList_append]; rfl
  rw [← h]
  rfl
theorem mkS_inj {a b : List Nat} (h : mkS a = mkS b) : a = b := by
  have h2 := congrArg (fun z : Str => z.cps.toList) h
  exact h2
theorem sW_list : sW.cps.toList = [97,98,99,100,101,102,103,104,105,106,107,108,109,110,111,112,113,114,115,116,117,118,119,120,121,122,48,49,50,51,52,53,54,55,56,57,46,44,58,59,33,63,39,40,41,43,61,60,62,42,47] := by decide +kernel
theorem sL_list : sL.cps.toList = [97,98,99,100,101,102,103,104,105,106,107,108,109,110,111,112,113,114,115,116,117,118,119,120,121,122] := by decide +kernel
theorem sB_list : sB.cps.toList = [32, 10] := by decide +kernel
theorem cL_W {c : Nat} (h : cL c = true) : cW c = true := by
  have h1 := of_decide_eq_true h
  refine decide_eq_true ?_
  rw [sL_list] at h1
  rw [sW_list]
  rw [show ([97,98,99,100,101,102,103,104,105,106,107,108,109,110,111,112,113,114,115,116,117,118,119,120,121,122,48,49,50,51,52,53,54,55,56,57,46,44,58,59,33,63,39,40,41,43,61,60,62,42,47] : List Nat) = [97,98,99,100,101,102,103,104,105,106,107,108,109,110,111,112,113,114,115,116,117,118,119,120,121,122] ++ [48,49,50,51,52,53,54,55,56,57,46,44,58,59,33,63,39,40,41,43,61,60,62,42,47] from rfl]
  exact List.mem_append_left _ h1
theorem cW_B {c : Nat} (h : cW c = true) : cB c = false := by
  refine decide_eq_false fun h2 => ?_
  rw [sB_list] at h2
  have h1 := of_decide_eq_true h
  rw [sW_list] at h1
  simp only [List.mem_cons, List.not_mem_nil, or_false] at h2
  rcases h2 with rfl | rfl
  · exact absurd h1 (by decide)
  · exact absurd h1 (by decide)
theorem cW_at : cW 64 = false := by
  unfold cW
  rw [sW_list]
  decide
theorem cB_at : cB 64 = false := by
  unfold cB
  rw [sB_list]
  decide
theorem cW_ne {c : Nat} (h : cW c = true) : c ≠ 64 := fun e => by
  rw [e, cW_at] at h
  cases h
theorem drop_le {α : Type} (p : α → Bool) : ∀ l : List α, (l.dropWhile p).length ≤ l.length
  | [] => Nat.le_refl _
  | c :: r => by
    rw [List.dropWhile_cons]
    split
    · exact Nat.le_trans (drop_le p r) (Nat.le_succ _)
    · exact Nat.le_refl _
/-- the tokens of a text -/
def tokF : Nat → List Nat → List (List Nat)
  | 0, _ => []
  | _ + 1, [] => []
  | n + 1, c :: r =>
    if cB c then tokF n r else if c = 64 then (c :: r.takeWhile cL) :: tokF n (r.dropWhile cL)
    else if cW c then (c :: r.takeWhile cW) :: tokF n (r.dropWhile cW) else [c] :: tokF n r
theorem tokF_more : ∀ (n m : Nat) (zs : List Nat), zs.length ≤ n → zs.length ≤ m → tokF n zs = tokF m zs
  | 0, 0, _, _, _ => rfl
  | 0, m + 1, zs, h, _ => by
    have e : zs = [] := List.length_eq_zero_iff.mp (Nat.le_zero.mp h)
    subst e
    rfl
  | n + 1, 0, zs, _, h => by
    have e : zs = [] := List.length_eq_zero_iff.mp (Nat.le_zero.mp h)
    subst e
    rfl
  | n + 1, m + 1, [], _, _ => rfl
  | n + 1, m + 1, c :: r, h1, h2 => by
    have a1 : r.length ≤ n := Nat.le_of_succ_le_succ h1
    have a2 : r.length ≤ m := Nat.le_of_succ_le_succ h2
    have d1 := drop_le cL r
    have d2 := drop_le cW r
    show (if cB c then tokF n r else if c = 64 then (c :: r.takeWhile cL) :: tokF n (r.dropWhile cL) else if cW c then (c :: r.takeWhile cW) :: tokF n (r.dropWhile cW) else [c] :: tokF n r) =
      (if cB c then tokF m r else if c = 64 then (c :: r.takeWhile cL) :: tokF m (r.dropWhile cL) else if cW c then (c :: r.takeWhile cW) :: tokF m (r.dropWhile cW) else [c] :: tokF m r)
    rw [tokF_more n m r a1 a2, tokF_more n m _ (Nat.le_trans d1 a1) (Nat.le_trans d1 a2), tokF_more n m _ (Nat.le_trans d2 a1) (Nat.le_trans d2 a2)]
def tok (zs : List Nat) : List (List Nat) := tokF zs.length zs
theorem tok_nil : tok [] = [] := rfl
theorem tok_cons (c : Nat) (r : List Nat) : tok (c :: r) = if cB c then tok r else if c = 64 then (c :: r.takeWhile cL) :: tok (r.dropWhile cL)
    else if cW c then (c :: r.takeWhile cW) :: tok (r.dropWhile cW) else [c] :: tok r := by
  show (if cB c then tokF r.length r else if c = 64 then (c :: r.takeWhile cL) :: tokF r.length (r.dropWhile cL) else if cW c then (c :: r.takeWhile cW) :: tokF r.length (r.dropWhile cW) else [c] :: tokF r.length r) = _
  rw [tokF_more r.length (r.dropWhile cL).length (r.dropWhile cL) (drop_le _ _) (Nat.le_refl _), tokF_more r.length (r.dropWhile cW).length (r.dropWhile cW) (drop_le _ _) (Nat.le_refl _)]
  rfl
/-! #### what the law's own walk has found, and how it goes on -/
def cont : Nat → List (List Nat) → List Nat → List (List Nat)
  | 1, f, r => f.dropLast ++ ((f.getLast?.getD []) ++ r.takeWhile cW) :: tok (r.dropWhile cW)
  | 2, f, r => f.dropLast ++ ((f.getLast?.getD []) ++ r.takeWhile cL) :: tok (r.dropWhile cL)
  | _, f, r => f ++ tok r
theorem cont0 (f : List (List Nat)) (r : List Nat) : cont 0 f r = f ++ tok r := rfl
theorem cont1 (g : List (List Nat)) (t r : List Nat) : cont 1 (g ++ [t]) r = g ++ (t ++ r.takeWhile cW) :: tok (r.dropWhile cW) := by
  show (g ++ [t]).dropLast ++ (((g ++ [t]).getLast?.getD []) ++ r.takeWhile cW) :: tok (r.dropWhile cW) = _
  rw [List.dropLast_concat, List.getLast?_concat]; rfl
theorem cont2 (g : List (List Nat)) (t r : List Nat) : cont 2 (g ++ [t]) r = g ++ (t ++ r.takeWhile cL) :: tok (r.dropWhile cL) := by
  show (g ++ [t]).dropLast ++ (((g ++ [t]).getLast?.getD []) ++ r.takeWhile cL) :: tok (r.dropWhile cL) = _
  rw [List.dropLast_concat, List.getLast?_concat]; rfl
/-- a sign that goes on -/
theorem cont1_on {c : Nat} (h : cW c = true) (g : List (List Nat)) (t r : List Nat) : cont 1 (g ++ [t]) (c :: r) = cont 1 (g ++ [t ++ [c]]) r := by
  rw [cont1, cont1, List.takeWhile_cons_of_pos h, List.dropWhile_cons_of_pos h, List.append_assoc]; rfl
theorem cont2_on {c : Nat} (h : cL c = true) (g : List (List Nat)) (t r : List Nat) : cont 2 (g ++ [t]) (c :: r) = cont 2 (g ++ [t ++ [c]]) r := by
  rw [cont2, cont2, List.takeWhile_cons_of_pos h, List.dropWhile_cons_of_pos h, List.append_assoc]; rfl
/-- a sign that doesn't -/
theorem cont1_off {c : Nat} (h : cW c = false) (g : List (List Nat)) (t r : List Nat) : cont 1 (g ++ [t]) (c :: r) = cont 0 (g ++ [t]) (c :: r) := by
  rw [cont1, cont0, List.takeWhile_cons_of_neg (by rw [h]; decide), List.dropWhile_cons_of_neg (by rw [h]; decide), List.append_nil, List.append_assoc]; rfl
theorem cont2_off {c : Nat} (h : cL c = false) (g : List (List Nat)) (t r : List Nat) : cont 2 (g ++ [t]) (c :: r) = cont 0 (g ++ [t]) (c :: r) := by
  rw [cont2, cont0, List.takeWhile_cons_of_neg (by rw [h]; decide), List.dropWhile_cons_of_neg (by rw [h]; decide), List.append_nil, List.append_assoc]; rfl
theorem cont_blank {c : Nat} (h : cB c = true) (f : List (List Nat)) (r : List Nat) : cont 0 f (c :: r) = cont 0 f r := by
  rw [cont0, cont0, tok_cons, if_pos h]
theorem cont_at (f : List (List Nat)) (r : List Nat) : cont 0 f (64 :: r) = cont 2 (f ++ [[64]]) r := by
  rw [cont0, cont2, tok_cons, if_neg (by rw [cB_at]; decide), if_pos rfl]; rfl
theorem cont_word {c : Nat} (h : cW c = true) (f : List (List Nat)) (r : List Nat) : cont 0 f (c :: r) = cont 1 (f ++ [[c]]) r := by
  rw [cont0, cont1, tok_cons, if_neg (by rw [cW_B h]; decide), if_neg (cW_ne h), if_pos h]; rfl
theorem cont_odd {c : Nat} (hb : cB c = false) (h : cW c = false) (ha : c ≠ 64) (f : List (List Nat)) (r : List Nat) : cont 0 f (c :: r) = cont 0 (f ++ [[c]]) r := by
  rw [cont0, cont0, tok_cons, if_neg (by rw [hb]; decide), if_neg ha, if_neg (by rw [h]; decide), List.append_assoc]; rfl
theorem cont_end1 (g : List (List Nat)) (t : List Nat) : cont 1 (g ++ [t]) [] = g ++ [t] := by
  rw [cont1]; show g ++ [t ++ []] = _; rw [List.append_nil]
theorem cont_end2 (g : List (List Nat)) (t : List Nat) : cont 2 (g ++ [t]) [] = g ++ [t] := by
  rw [cont2]; show g ++ [t ++ []] = _; rw [List.append_nil]
theorem cont_end0 (f : List (List Nat)) : cont 0 f [] = f := by
  rw [cont0, tok_nil, List.append_nil]
/-! #### tokens put together -/
/-- blanks and line feeds alone -/
def Bl (g : List Nat) : Prop := ∀ c ∈ g, cB c = true
/-- a token -/
def Tk (t : List Nat) : Prop := (∃ c, t = [c] ∧ cB c = false ∧ cW c = false ∧ c ≠ 64) ∨ (∃ r, t = 64 :: r ∧ ∀ c ∈ r, cL c = true) ∨ (t ≠ [] ∧ ∀ c ∈ t, cW c = true)
/-- the one runs on into the other -/
def runs (t u : List Nat) : Bool := if t.headD 0 = 64 then cL (u.headD 0) else cW (t.headD 0) && cW (u.headD 0)
theorem tok_gap : ∀ (g r : List Nat), Bl g → tok (g ++ r) = tok r
  | [], _, _ => rfl
  | c :: g, r, h => by
    rw [List.cons_append, tok_cons, if_pos (h c List.mem_cons_self)]
    exact tok_gap g r fun z hz => h z (List.mem_cons_of_mem _ hz)
theorem take_all {p : Nat → Bool} : ∀ (t r : List Nat), (∀ c ∈ t, p c = true) → (∀ c r', r = c :: r' → p c = false) → (t ++ r).takeWhile p = t ∧ (t ++ r).dropWhile p = r
  | [], [], _, _ => ⟨rfl, rfl⟩
  | [], c :: r, _, h => by
    have e := h c r rfl
    rw [List.nil_append, List.takeWhile_cons_of_neg (by rw [e]; decide), List.dropWhile_cons_of_neg (by rw [e]; decide)]
    exact ⟨rfl, rfl⟩
  | c :: t, r, ht, h => by
    have ⟨a, b⟩ := take_all t r (fun z hz => ht z (List.mem_cons_of_mem _ hz)) h
    rw [List.cons_append, List.takeWhile_cons_of_pos (ht c List.mem_cons_self), List.dropWhile_cons_of_pos (ht c List.mem_cons_self), a, b]
    exact ⟨rfl, rfl⟩
theorem tok_tok {t r : List Nat} (h : Tk t) (hr : r = [] ∨ runs t r = false) : tok (t ++ r) = t :: tok r := by
  rcases h with ⟨c, rfl, hb, hw, ha⟩ | ⟨u, rfl, hu⟩ | ⟨hn, hw⟩
  · show tok (c :: r) = _
    rw [tok_cons, if_neg (by rw [hb]; decide), if_neg ha, if_neg (by rw [hw]; decide)]
  · have hs : ∀ c r', r = c :: r' → cL c = false := by
      intro c r' e
      rcases hr with z | z
      · rw [z] at e; cases e
      · subst e; exact z
    have ⟨a, b⟩ := take_all u r hu hs
    rw [List.cons_append, tok_cons, if_neg (by rw [cB_at]; decide), if_pos rfl, a, b]
  · cases t with
    | nil => exact absurd rfl hn
    | cons c u =>
      have hc := hw c List.mem_cons_self
      have hs : ∀ x r', r = x :: r' → cW x = false := by
        intro x r' e
        rcases hr with z | z
        · rw [z] at e; cases e
        · subst e
          unfold runs at z
          rw [show (c :: u).headD 0 = c from rfl, if_neg (cW_ne hc), hc] at z
          exact z
      have ⟨a, b⟩ := take_all u r (fun z hz => hw z (List.mem_cons_of_mem _ hz)) hs
      rw [List.cons_append, tok_cons, if_neg (by rw [cW_B hc]; decide), if_neg (cW_ne hc), if_pos hc, a, b]
/-- tokens and the gaps behind them, put into one row -/
def mixed : List (List Nat) → List (List Nat) → List Nat
  | t :: ts, g :: gs => t ++ (g ++ mixed ts gs)
  | _, _ => []
/-- what is asked of a gap behind token k -/
def need (ts : List (List Nat)) (k : Nat) : Bool := match ts[k]?, ts[k + 1]? with
  | some t, some u => runs t u
  | _, _ => false
theorem runs_bl {t g r : List Nat} (hn : g ≠ []) (hg : Bl g) : runs t (g ++ r) = false := by
  cases g with
  | nil => exact absurd rfl hn
  | cons c g =>
    have hb := hg c List.mem_cons_self
    have hw : cW c = false := by
      cases e : cW c with
      | false => rfl
      | true => rw [cW_B e] at hb; cases hb
    have hl : cL c = false := by
      cases e : cL c with
      | false => rfl
      | true => rw [cL_W e] at hw; cases hw
    unfold runs
    rw [List.cons_append]
    show (if t.headD 0 = 64 then cL c else cW (t.headD 0) && cW c) = false
    rw [hl, hw, Bool.and_false]
    split <;> rfl
theorem runs_head {t u r : List Nat} (hu : u ≠ []) : runs t (u ++ r) = runs t u := by
  cases u with
  | nil => exact absurd rfl hu
  | cons c u => rfl
theorem Tk.ne {t : List Nat} (h : Tk t) : t ≠ [] := by
  rcases h with ⟨c, rfl, _⟩ | ⟨r, rfl, _⟩ | ⟨h, _⟩
  · exact fun e => by cases e
  · exact fun e => by cases e
  · exact h
theorem tok_mixed : ∀ (ts gs : List (List Nat)), (∀ t ∈ ts, Tk t) → gs.length = ts.length → (∀ k g, gs[k]? = some g → Bl g ∧ (need ts k = true → g ≠ [])) → tok (mixed ts gs) = ts
  | [], [], _, _, _ => rfl
  | [], _ :: _, _, h, _ => by cases h
  | _ :: _, [], _, h, _ => by cases h
  | t :: ts, g :: gs, ht, hl, hg => by
    have ih := tok_mixed ts gs (fun u hu => ht u (List.mem_cons_of_mem _ hu)) (Nat.succ.inj hl) (fun k g' e => by
      have := hg (k + 1) g' e
      exact this)
    obtain ⟨hb, hne⟩ := hg 0 g rfl
    show tok (t ++ (g ++ mixed ts gs)) = t :: ts
    rw [tok_tok (ht t List.mem_cons_self), tok_gap g _ hb, ih]
    by_cases e : g = []
    · subst e
      rw [List.nil_append]
      cases ts with
      | nil => exact .inl (by cases gs <;> rfl)
      | cons u us =>
        cases gs with
        | nil => cases hl
        | cons g2 gs2 =>
          refine .inr ?_
          show runs t (u ++ (g2 ++ mixed us gs2)) = false
          rw [runs_head (ht u (List.mem_cons_of_mem _ List.mem_cons_self)).ne]
          cases q : runs t u with
          | false => rfl
          | true => exact absurd rfl (hne q)
    · exact .inr (runs_bl e hb)
/-! #### small things -/
theorem take_succ' {α : Type} {l : List α} {i : Nat} {x : α} (h : l[i]? = some x) : l.take (i + 1) = l.take i ++ [x] := by
  rw [List.take_add_one, h]; rfl
theorem big_ok {n : Nat} (h : n ≤ 100000) : n ≤ sizeLine := Nat.le_trans h (by decide)
theorem get_sV {ts : List (List Nat)} {i : Nat} {t : List Nat} (h : ts[i]? = some t) : (ts.map sV)[i]? = some (sV t) := by
  rw [List.getElem?_map, h]; rfl
theorem drop_at {zs : List Nat} {i c : Nat} (h : zs[i]? = some c) : zs.drop i = c :: zs.drop (i + 1) := by
  have ⟨h1, h2⟩ := List.getElem?_eq_some_iff.mp h
  rw [List.drop_eq_getElem_cons h1, h2]
theorem same_mut {H H' : Hp} {p : Addr} {o : HO} (a : Same H H') (hp : H p = none) : Same H (upd H' p o) := fun x u h => by
  rw [upd_ne (ne_of_none h hp)]; exact a x u h
theorem same_upd {H H' : Hp} {p : Addr} {o : HO} (a : Same H H') (hp : H' p = none) : Same H (upd H' p o) := fun x u h => by
  have h2 := a x u h
  rw [upd_ne (ne_of_none h2 hp)]; exact h2
theorem dec_sign (c : Nat) (z : Str) (e : Nat) (hz : z = mkS [e]) : decide (V.str ⟨#[c]⟩ = V.str z) = decide (c = e) := by
  rw [hz]
  by_cases h : c = e
  · subst h; rw [decide_eq_true rfl]; exact decide_eq_true rfl
  · rw [decide_eq_false h]
    refine decide_eq_false fun q => h ?_
    have e2 : mkS [c] = mkS [e] := V.str.inj q
    have e3 := mkS_inj e2
    injection e3
theorem tf (b : Bool) : b = true ∨ b = false := by cases b <;> simp
theorem bl_of {p : Prop} [Decidable p] {b : Bool} (h : decide p = b) : V.bl (decide p) = V.bl b := congrArg V.bl h
theorem at_mk : (("@" : Str)) = mkS [64] := by decide +kernel
/-! ### texts put together -/
theorem empty_mk : (("" : Str)) = mkS [] := by decide +kernel
theorem map_sV (zss : List (List Nat)) : zss.map sV = (zss.map mkS).map V.str := by
  rw [List.map_map]; rfl
theorem sum_len : ∀ zss : List (List Nat), ((zss.map mkS).map (·.length)).sum = zss.flatten.length
  | [] => rfl
  | z :: r => by
    rw [List.map_cons, List.map_cons, List.sum_cons, sum_len r, List.flatten_cons, List.length_append, mkS_len]
theorem joinL_nil : ∀ zss : List (List Nat), joinL [] zss = zss.flatten
  | [] => rfl
  | [z] => by show z = z ++ []; rw [List.append_nil]
  | z :: y :: r => by
    show z ++ ([] ++ joinL [] (y :: r)) = z ++ (y :: r).flatten
    rw [List.nil_append, joinL_nil (y :: r)]
theorem join_mk (zss : List (List Nat)) : Txt.join ("" : Str) (zss.map mkS) = mkS zss.flatten := by
  have h : tl (Txt.join ("" : Str) (zss.map mkS)) = zss.flatten := by
    rw [join_eq, tl_join, show (zss.map mkS).map tl = zss from (by rw [List.map_map]; exact List.map_id'' (fun _ => rfl) zss), empty_mk]
    exact joinL_nil zss
  rw [← h]; rfl
theorem flat_len {B : Nat} : ∀ {zss : List (List Nat)}, (∀ z ∈ zss, z.length ≤ B) → zss.flatten.length ≤ zss.length * B
  | [], _ => Nat.zero_le _
  | z :: r, h => by
    have ih := flat_len (zss := r) fun y hy => h y (List.mem_cons_of_mem _ hy)
    have hz := h z List.mem_cons_self
    rw [List.flatten_cons, List.length_append, List.length_cons, Nat.succ_mul]
    omega
theorem flat_one : ∀ {zss : List (List Nat)}, (∀ z ∈ zss, z.length = 1) → zss.flatten.length = zss.length
  | [], _ => rfl
  | z :: r, h => by
    rw [List.flatten_cons, List.length_append, List.length_cons, flat_one fun y hy => h y (List.mem_cons_of_mem _ hy), h z List.mem_cons_self]
    omega
theorem blank_mk : ((" " : Str)) = mkS [32] := by decide +kernel
theorem feed_mk : (("\n" : Str)) = mkS [10] := by decide +kernel
end Vf

set_option Elab.async false
set_option linter.all false
set_option maxRecDepth 100000
set_option maxHeartbeats 4000000
namespace Vf
open PySem PySem.Spec PyProof.Rows L2 TL
/-- what the list of a comprehension holds: texts -/
def PvS (R : List Nat → Prop) (d l : Addr) (H : Hp) (D : Addr) (i : Nat) (H' : Hp) : Prop :=
  ∃ zss : List (List Nat), zss.length = i ∧ (∀ zs ∈ zss, R zs) ∧ Kp d H H' ∧ DI d l H' ∧ H' D = some (.lst (zss.map sV))
theorem PvS.start {R : List Nat → Prop} {d l D : Addr} {H : Hp} (hD : DI d l H) (nD : H D = none) : PvS R d l H D 0 (upd H D (.lst [])) :=
  ⟨[], rfl, (fun _ h => nomatch h), (Kp.refl d H).new nD, hD.new nD, upd_same⟩
theorem PvS.dice {R : List Nat → Prop} {d l D : Addr} {H H1 : Hp} {i : Nat} (p : PvS R d l H D i H1) : DI d l H1 := by
  obtain ⟨_, _, _, _, h, _⟩ := p
  exact h
theorem PvS.step {R : List Nat → Prop} {d l D : Addr} {H H1 H2 : Hp} {i : Nat} {zs : List Nat} (hD : DI d l H) (nD : H D = none) (p : PvS R d l H D i H1) (hi : i < 100000) (K2 : Kp d H1 H2) (D2 : DI d l H2) (r : R zs) :
    ∃ acc, H2 D = some (.lst acc) ∧ acc.length < sizeLine ∧ PvS R d l H D (i + 1) (upd H2 D (.lst (acc ++ [sV zs]))) := by
  obtain ⟨zss, hl, hR, K1, D1, e1⟩ := p
  have n1 := hD.nd nD
  have e2 : H2 D = some (.lst (zss.map sV)) := K2 _ _ n1.1 e1
  refine ⟨_, e2, ?_, zss ++ [zs], ?_, ?_, (K1.trans K2).mut nD, D2.at n1.1 n1.2, ?_⟩
  · rw [List.length_map, hl]
    exact Nat.lt_of_lt_of_le hi (by decide)
  · rw [List.length_append, hl]; rfl
  · intro z hz
    rcases List.mem_append.mp hz with h | h
    · exact hR z h
    · rw [List.mem_singleton.mp h]; exact r
  · rw [upd_same, List.map_append]; rfl
section
variable {P : Program} {w : World} {K : PySem.W.Frag} {mg : Str → Option Value} {base : Heap}
/-! ### pick, rare -/
/-- what is picked from -/
def Row (K : PySem.W.Frag) (H : Hp) (d : Addr) (row : V) (xs : List V) : Prop :=
  (∃ a, row = .ref a ∧ a ≠ d ∧ SqL K H a xs) ∨ ∃ zs, row = sV zs ∧ xs = zs.map fun c => sV [c]
def spPick (K : PySem.W.Frag) : Sp := fun vs H Q _ => ∃ (d l : Addr) (row : V) (xs : List V), vs = [.ref d, row] ∧ DI d l H ∧ Row K H d row xs ∧ 0 < xs.length ∧ xs.length ≤ 1000 ∧
  ∀ H' v, Kp d H H' → DI d l H' → v ∈ xs → Q v H'
theorem at_draw {xs : List V} {r : Int} (h : 0 < xs.length) (h1 : (xs.length : Int) < 2 → r = 0) (h2 : 2 ≤ (xs.length : Int) → 0 ≤ r ∧ r < (xs.length : Int)) :
    ∃ (j : Nat) (hj : j < xs.length), r = (j : Int) := by
  by_cases h3 : 2 ≤ (xs.length : Int)
  · have ⟨a, b⟩ := h2 h3
    exact ⟨r.toNat, by omega, by omega⟩
  · exact ⟨0, h, by rw [h1 (by omega)]; rfl⟩
theorem ok_pick (T : Txt K mg) : FnOk P w K mg base CX0 2 T.a_law_pick T.d_law_pick ["_law_d", "_law_row"] (spPick K) := by
  have G_law_draw : FnOk P w K mg base CX0 1 T.a_law_draw T.d_law_draw ["_law_d", "_law_many"] spDraw := ok_draw T
  refine T.D_law_pick.F.ok sc_law_pick (fun vs H Q E h => ?_) (fun cdv A outer s H vs Q E hr h => ?_)
  · obtain ⟨d, l, row, xs, rfl, _⟩ := h
    rfl
  · obtain ⟨d, l, row, xs, rfl, hD, hR, h0, hx, q⟩ := h
    refine ⟨_, (pss_one (ps_ret (pe_ix ix_seq (pv 1) (pe_call G_law_draw (hr.mono (by decide)) (by rfl) T.D_law_draw.G T.D_law_draw.F.kp T.D_law_draw.B .nil pass0 (pa_cons (pv 0) (pa_cons (pe_callB call_len (by rfl) T.n_len PySem.boot_len (pa_cons (pv 1) pa_nil)) pa_nil))) (fun _ _ => rfl)))), ?_⟩
    have hlen : LenV K row H xs.length := by
      rcases hR with ⟨a, rfl, _, hS⟩ | ⟨zs, rfl, rfl⟩
      · exact .inl ⟨_, hS, rfl⟩
      · rw [List.length_map] at hx ⊢
        refine ⟨?_, (mkS_len zs).symm⟩
        rw [mkS_len]
        exact Nat.le_trans hx (by decide)
    refine ⟨_, rfl, _, rfl, _, rfl, _, _, rfl, hlen, d, l, _, rfl, hD, by omega, fun H' r k D' e1 e2 => ?_⟩
    obtain ⟨j, hj, rfl⟩ := at_draw h0 e1 e2
    rcases hR with ⟨a, rfl, nd, hS⟩ | ⟨zs, rfl, rfl⟩
    · exact .inl ⟨a, xs, _, xs[j], rfl, rfl, k.sq nd hS, atI_nat (List.getElem?_eq_getElem hj), q H' _ k D' (List.getElem_mem hj)⟩
    · have hj2 : j < zs.length := by rw [List.length_map] at hj; exact hj
      refine .inr (.inr ⟨mkS zs, _, zs[j], rfl, rfl, ?_, ?_, q H' _ k D' (List.mem_map.mpr ⟨zs[j], List.getElem_mem hj2, rfl⟩)⟩)
      · rw [mkS_len]; rw [List.length_map] at hx; exact Nat.le_trans hx (by decide)
      · rw [mkS_cps]; exact atI_nat (List.getElem?_eq_getElem hj2)
def spRare : Sp := fun vs H Q _ => ∃ (d l : Addr) (m : Int), vs = [.ref d, .int m] ∧ DI d l H ∧ m ≤ 1000000 ∧ ∀ H' b, Kp d H H' → DI d l H' → Q (.bl b) H'
theorem ok_rare (T : Txt K mg) : FnOk P w K mg base CX0 2 T.a_law_rare T.d_law_rare ["_law_d", "_law_many"] spRare := by
  have G_law_draw : FnOk P w K mg base CX0 1 T.a_law_draw T.d_law_draw ["_law_d", "_law_many"] spDraw := ok_draw T
  refine T.D_law_rare.F.ok sc_law_rare (fun vs H Q E h => ?_) (fun cdv A outer s H vs Q E hr h => ?_)
  · obtain ⟨d, l, m, rfl, _⟩ := h
    rfl
  · obtain ⟨d, l, m, rfl, hD, hm, q⟩ := h
    refine ⟨_, (pss_one (ps_ret (pe_cmpR op_eq (pe_call G_law_draw (hr.mono (by decide)) (by rfl) T.D_law_draw.G T.D_law_draw.F.kp T.D_law_draw.B .nil pass0 (pa_cons (pv 0) (pa_cons (pv 1) pa_nil))) (pe_op op_fdivN (pe_op op_mul (pv 1) pe_int) pe_int) (nomark _)))), ?_⟩
    refine ⟨_, rfl, _, rfl, d, l, m, rfl, hD, (by omega), fun H' r k D' e1 e2 => ?_⟩
    exact ⟨_, rfl, _, _, rfl, rfl, .inr ⟨by decide, by decide⟩, _, _, rfl, rfl, ⟨by decide, by decide⟩, rfl, q H' _ k D'⟩
/-! ### run, word -/
def spRun : Sp := fun vs H Q _ => ∃ (d l : Addr) (cs : List Nat) (n : Int), vs = [.ref d, sV cs, .int n] ∧ DI d l H ∧ 0 < cs.length ∧ cs.length ≤ 1000 ∧ 0 ≤ n ∧ n ≤ 1000 ∧
  ∀ H' zs, Kp d H H' → DI d l H' → (zs.length : Int) = n → (∀ c ∈ zs, c ∈ cs) → Q (sV zs) H'
/-- texts of one sign each -/
def One (cs zs : List Nat) : Prop := ∃ c, zs = [c] ∧ c ∈ cs
theorem one_flat {cs : List Nat} : ∀ {zss : List (List Nat)}, (∀ z ∈ zss, One cs z) → zss.flatten.length = zss.length ∧ ∀ c ∈ zss.flatten, c ∈ cs
  | [], _ => ⟨rfl, fun _ h => nomatch h⟩
  | z :: r, h => by
    obtain ⟨c, rfl, hc⟩ := h z List.mem_cons_self
    have ⟨a, b⟩ := one_flat (zss := r) fun y hy => h y (List.mem_cons_of_mem _ hy)
    rw [List.flatten_cons]
    refine ⟨by rw [List.length_append, a]; show 1 + r.length = r.length + 1; omega, fun x hx => ?_⟩
    rcases List.mem_append.mp hx with e | e
    · rw [List.mem_singleton.mp e]; exact hc
    · exact b x e
theorem pick_one {d l : Addr} {cs : List Nat} {H : Hp} {Q : VK} (hD : DI d l H) (h0 : 0 < cs.length) (hx : cs.length ≤ 1000) (q : ∀ H' zs, Kp d H H' → DI d l H' → One cs zs → Q (sV zs) H') : spPick K [.ref d, sV cs] H Q E0 := by
  refine ⟨d, l, _, _, rfl, hD, .inr ⟨cs, rfl, rfl⟩, by rw [List.length_map]; exact h0, by rw [List.length_map]; exact hx, fun H' v k D' hv => ?_⟩
  obtain ⟨c, hc, rfl⟩ := List.mem_map.mp hv
  exact q H' _ k D' ⟨c, rfl, hc⟩
def spWord : Sp := fun vs H Q _ => ∃ (d l : Addr) (lo hi : Int), vs = [.ref d, .int lo, .int hi] ∧ DI d l H ∧ 0 ≤ lo ∧ lo ≤ hi ∧ hi ≤ 900 ∧
  ∀ H' zs, Kp d H H' → DI d l H' → lo ≤ (zs.length : Int) → (zs.length : Int) ≤ hi → (∀ c ∈ zs, cW c = true) → Q (sV zs) H'
end
end Vf

set_option Elab.async false
set_option linter.all false
set_option maxRecDepth 100000
set_option maxHeartbeats 4000000
namespace Vf
open PySem PySem.Spec PyProof.Rows L2
/-! ### set comprehensions of ints -/
/-- y is put into the set at D that is being made -/
def AddI (w : World) (D : Addr) (y : V) (H : Hp) (N : Hp → Prop) : Prop :=
  ∃ (k : Int) (S : Int → Bool) (n : Nat), y = .int k ∧ H D = some (SetO w D S n) ∧ n + 1 < scanBound ∧ N (upd H D (SetO w D (fun j => S j || decide (j = k)) (if S k = true then n else n + 1)))
theorem add_runs {Y : Cx} {ps : List (Addr × Obj)} {τ : L2.St} {H : Hp} {t : Shared} {D : Addr} {y : V} {u : Value} {N : Hp → Prop} {F : Value → Shared → Prop} {R : Value → Shared → Prop} (I : Inv Y ps τ H t) (ky : RelV y u) (h : AddI Y.w D y H N)
    (go : ∀ t' H', Inv Y ps τ H' t' → N H' → R .none t') :
    wpAny (model Y.prog Y.w) Y.A (call (.builtin "set.add") [.ref D, u]) R F t := by
  obtain ⟨k, S, n, ey, eD, room, hN⟩ := h
  subst ey
  obtain ⟨tk, rfl⟩ := ky
  refine setR_add (setO_get I eD) room fun h' same r => ?_
  have he : ∃ x, h'.get? D = some x := by
    obtain ⟨o, es, ep, tt, ho, rest⟩ := id r
    exact ⟨o, ho⟩
  exact go _ _ (I.write (e := D) (t' := t.toks + 1) (by rw [eD]; trivial) (.inl rfl) (fun b x hb hx => (same.2 b hb).trans hx) he (setO_new r)) hN
section
variable {X : Cx}
/-- {e for target in iter if ..}, e an int: D the new set -/
def tScI (w : World) (wi : TI) (g : TG) (tt : TT) (tk : TE) (own : List Nat) : TE := fun σ H Q => wi σ H fun J Ha => ∀ D, Ha D = none →
  ∃ W : Nat → Nat → Hp → Prop, (∃ m, W 0 m (upd Ha D (SetO w D (fun _ => false) 0))) ∧ ∀ i m Hb, W i m Hb → (J.stop i Hb ∧ Q (.ref D) Hb) ∨
    (J.go i Hb ∧ ∃ N : Hp → Prop, (∀ Hc, N Hc → ∃ m', m' < m ∧ W (i + 1) m' Hc) ∧ ∀ x Hc, J.yld i Hb x Hc →
      g x (wipe σ own) Hc fun σ2 H2 => wipe σ2 own = wipe σ own ∧ tt σ2 H2 fun b H3 => if b = true then tk σ2 H3 fun y H4 => AddI w D y H4 N else N H3)
/-- the block's promise of each part, wherever the block's own room comes to stand -/
abbrev InBlk (X : Cx) (scope : Scope) (R : Cx → Prop) : Prop := ∀ (s : Shared) (H : Hp) (C : Addr) (cl : List (Str × Addr)) (fp : List Addr), R (X.blk s H scope (compEnvC scope cl C X.env) fp)
theorem scI_core {pins : List (Addr × Obj)} {s : Shared} {σ : L2.St} {H : Hp} {Q : VK} {kx tg iter : Expr} {ifs : List Expr} {scope : Scope} {own : List (Str × Nat)} {pos pos' : Pos} {wi : TI} {g : TG} {tt : TT} {tk : TE} {use : Option (Value → Sem Unit)} {Qf : Value → Shared → Prop}
    (calm : X.calm = true) (nd : X.N.Nodup) (I : Inv X pins σ H s) (pi : PI X tg iter wi) (bk : BlkOk X.N X.env.scope scope own)
    (pg : InBlk X scope fun Y => PG Y tg g) (pt : InBlk X scope fun Y => PTs Y ifs tt) (pk : InBlk X scope fun Y => PE Y kx tk) (fold : ∀ x, foldedSetIterable iter X.env x = pure x)
    (h : tScI X.w wi g tt tk (own.map (·.2)) σ H Q)
    (leave : ∀ (D C : Addr) t ms H', Inv X pins σ H' t → Q (.ref D) H' → t.heap.Ns C ms → FpOk X pins H' C → compPost (model X.prog X.w) X.A X.xe use Qf (.ref D) C (.ok .next) t) :
    wpAny (model X.prog X.w) X.A (comprehension (.SetComp kx [⟨tg, iter, ifs, 0⟩] scope pos) scope X.env pos' (newSet (.type "set")) false (eval iter X.env) use) Qf X.xe s := by
  have has : ∀ y ∈ scope.names, y.2 = .free → ∃ c, X.env.cells.lookup y.1 = some c := by
    intro y hy e
    exact (bk.free y hy e).elim (fun k => I.ok.has _ (.inl k)) (fun k => I.ok.has _ (.inr k))
  refine wpAny_comprehension_free (use := use) rfl fold (closure_ok has) bk.kind (fun y hy e => (bk.uniq y hy).trans (congrArg some e)) ?_
  refine thn (pi.run pins s σ H _ I h) fun v0 s1 w1 => thn w1 fun v1 s2 w2 => ?_
  obtain ⟨it, fp, tn, J, Ha, rfl, Ia, T, st, fs, q⟩ := w2
  refine PpSet.newSet_ok (newEnv_comp ?_)
  -- the new set stands at D
  obtain ⟨D, eD⟩ : ∃ D, D = s2.heap.objs.size := ⟨_, rfl⟩
  obtain ⟨W, ⟨m0, w0⟩, turn⟩ := q D (Ia.hok.fresh (Nat.le_of_eq eD.symm))
  obtain ⟨s3, es3⟩ : ∃ s3 : Shared, s3 = { s2 with heap := s2.heap.push { cls := .type "set", dict := none, data := .set #[] 0 (.fresh 0 0 (!X.w.params.followText "set-order")) } } := ⟨_, rfl⟩
  have eh : s3.heap = s2.heap.push { cls := .type "set", dict := none, data := .set #[] 0 (.fresh 0 0 (!X.w.params.followText "set-order")) } := by rw [es3]
  rw [← es3, ← eD]
  have Ib : Inv X pins σ (upd Ha D (SetO X.w D (fun _ => false) 0)) s3 := by
    rw [es3, eD]
    exact Ia.laid (t' := s2.toks) (fun b o e => Heap.get?_push_of_some _ e) (Nat.le_refl _) (setO_new (setR_fresh X.w))
  have lt : ∀ b ∈ fp, b < D := fun b hb => by
    have ⟨o, e, _⟩ := T.obj _ _ st b hb
    rw [eD]; exact Heap.lt_size e
  have fd : ∀ b ∈ fp, (upd Ha D (SetO X.w D (fun _ => false) 0)) b = none := fun b hb => (upd_ne (Nat.ne_of_lt (lt b hb))).trans (fs b hb).1
  have f3 : ∀ b ∈ fp, FpOk X pins (upd Ha D (SetO X.w D (fun _ => false) 0)) b ∧ b < s3.heap.objs.size := fun b hb =>
    ⟨⟨fd b hb, (fs b hb).2⟩, by rw [eh, Heap.size_push, ← eD]; exact Nat.lt_succ_of_lt (lt b hb)⟩
  have st3 : tn 0 s3.heap := T.keep _ _ _ st fun b _ o e => by rw [eh]; exact Heap.get?_push_of_some _ e
  have Ic := block_start Ib bk nd f3
  have G := pg s3 (upd Ha D (SetO X.w D (fun _ => false) 0)) s3.heap.objs.size (cellsFrom (s3.heap.objs.size + 1) scope.names (cloFrom X.env.cells scope.names [])) fp
  have S := pt s3 (upd Ha D (SetO X.w D (fun _ => false) 0)) s3.heap.objs.size (cellsFrom (s3.heap.objs.size + 1) scope.names (cloFrom X.env.cells scope.names [])) fp
  have Kx := pk s3 (upd Ha D (SetO X.w D (fun _ => false) 0)) s3.heap.objs.size (cellsFrom (s3.heap.objs.size + 1) scope.names (cloFrom X.env.cells scope.names [])) fp
  obtain ⟨ce, ece⟩ : ∃ ce, ce = compEnvC scope (cellsFrom (s3.heap.objs.size + 1) scope.names (cloFrom X.env.cells scope.names [])) s3.heap.objs.size X.env := ⟨_, rfl⟩
  have cl : ce.locals = s3.heap.objs.size := by rw [ece]; rfl
  obtain ⟨s4, es4⟩ : ∃ s4 : Shared, s4 = { s3 with heap := pushCells (s3.heap.push { cls := .type "dict", data := .dict #[] }) scope.names } := ⟨_, rfl⟩
  rw [← ece] at Ic G S Kx
  rw [← es4] at Ic
  have st4 : tn 0 s4.heap := T.keep _ _ _ st3 fun b _ o e => by rw [es4]; exact pushCells_keeps _ _ _ _ (Heap.get?_push_of_some _ e)
  have pinned : ∀ {τ : L2.St} {H' : Hp} {t : Shared}, Inv (X.blk s3 (upd Ha D (SetO X.w D (fun _ => false) 0)) scope ce fp) [] τ H' t → (∀ b ∈ fp, H' b = none) → ∀ b ∈ fp, FpOk (X.blk s3 (upd Ha D (SetO X.w D (fun _ => false) 0)) scope ce fp) [] H' b := by
    intro τ H' t I' free b hb
    have e1 := I'.ok.exf b hb
    exact ⟨free b hb, e1.1, I'.ok.exfs b hb, .inl hb, fun x c e => e1.2 x c e, fun p hp => by cases hp⟩
  -- what the loop keeps at its turn number i
  let Keep : Nat → Shared → Prop := fun n t => ∃ i H', Inv (X.blk s3 (upd Ha D (SetO X.w D (fun _ => false) 0)) scope ce fp) [] (wipe σ (own.map (·.2))) H' t ∧ tn i t.heap ∧ (∀ b ∈ fp, H' b = none) ∧ W i n H'
  have runs : codeAny (model X.prog X.w) X.A (.compLoop (.SetComp kx [⟨tg, iter, ifs, 0⟩] scope pos) 0 (.ref it) (.ref D) ce)
      (compPost (model X.prog X.w) X.A X.xe use Qf (.ref D) s3.heap.objs.size) s4 := by
    refine PpSet.compLoopS_any Keep ?_ m0 ⟨0, _, Ic, st4, fd, w0⟩
    intro n t1 ⟨i, Hb, I1, z1, free, w1⟩
    rcases turn i n Hb w1 with ⟨stop, hQ⟩ | ⟨go, N, less, step⟩
    · -- no further thing: back in the def
      refine thnF (T.done (X.blk s3 (upd Ha D (SetO X.w D (fun _ => false) 0)) scope ce fp) rfl rfl rfl calm i [] t1 _ Hb (fun _ _ => False) I1 (pinned I1 free) z1 stop) fun r t2 ⟨er, I2⟩ => ?_
      subst er
      have Iz : Inv X pins σ Hb t2 := Ib.call' (ch := fp) I2.os I2.base I2.hok I2.bare fun b hb =>
        have f := (f3 b hb).1.2
        ⟨f.2.2.1, f.1, f.2.2.2.1, f.2.2.2.2⟩
      obtain ⟨ms, hns, _⟩ := I2.loc
      have hns : t2.heap.Ns ce.locals ms := hns
      have nl : Hb ce.locals = none := I2.free
      rw [cl] at hns nl
      exact leave D _ t2 ms Hb Iz hQ hns (Ib.fpOk (Nat.le_refl _) nl)
    · refine thnF (T.item (X.blk s3 (upd Ha D (SetO X.w D (fun _ => false) 0)) scope ce fp) rfl rfl rfl calm i [] t1 _ Hb (fun _ _ => False) I1 (pinned I1 free) z1 go) fun r t2 ⟨u, er, a2⟩ => ?_
      subst er
      refine thnF a2 fun _ t3 ⟨x, Hc, I3, rx, y3, z3, free3⟩ => ?_
      refine thnF (G.run _ t3 _ Hc x u _ (I3.pinned (pinned I3 free3) (T.obj _ _ z3)) rx (step x Hc y3)) fun _ t4 ⟨σ2, H2, I4, ew, q4⟩ => ?_
      refine thnF (S.run _ t4 σ2 H2 _ I4 q4) fun b t5 ⟨H3, I5, q5⟩ => ?_
      -- how a turn ends, in the room of the block
      have close : ∀ {t : Shared} {H' : Hp}, Inv (X.blk s3 (upd Ha D (SetO X.w D (fun _ => false) 0)) scope ce fp) ([] ++ pinsAt fp t3.heap) σ2 H' t → N H' → ∃ m, m < n ∧ Keep m t := by
        intro t H' I' hN
        obtain ⟨m', hm, w'⟩ := less H' hN
        have still : ∀ b ∈ fp, ∀ o, t3.heap.get? b = some o → t.heap.get? b = some o ∧ H' b = none := by
          intro b hb o e
          have p := I'.pin (b, o) (List.mem_append_right _ (List.mem_append_right _ (mem_pinsAt hb e)))
          exact ⟨p.1, p.2.1⟩
        have len : (wipe σ (own.map (·.2))).length = σ2.length := by rw [← ew]; exact wipe_length _ _
        refine ⟨m', hm, i + 1, H', (I'.unpinned (pins := [])).weak len fun j v e => ?_, T.keep _ _ _ z3 fun b hb o e => (still b hb o e).1, fun b hb => ?_, w'⟩
        · rw [← ew] at e; exact (wipe_some e).1
        · have ⟨o, e, _⟩ := T.obj _ _ z3 b hb
          exact (still b hb o e).2
      cases b with
      | false => exact close I5 q5
      | true =>
        refine thnF (Kx.run _ t5 σ2 H3 _ I5 q5) fun ku t6 ⟨y, H4, I6, ry, q6⟩ => ?_
        exact add_runs (Y := X.blk s3 (upd Ha D (SetO X.w D (fun _ => false) 0)) scope ce fp) I6 ry q6 fun t8 H6 I8 n8 => close I8 n8
  have whole := PpSet.codeAny_compStart_set runs (T.self X.A 0 _ _ _ st4 runs)
  rw [ece, es4] at whole
  exact whole
/-- as a value -/
theorem pe_scI {kx tg iter : Expr} {ifs : List Expr} {scope : Scope} {own : List (Str × Nat)} {pos : Pos} {wi : TI} {g : TG} {tt : TT} {tk : TE} (calm : X.calm = true) (nd : X.N.Nodup) (pi : PI X tg iter wi) (bk : BlkOk X.N X.env.scope scope own)
    (pg : InBlk X scope fun Y => PG Y tg g) (pt : InBlk X scope fun Y => PTs Y ifs tt) (pk : InBlk X scope fun Y => PE Y kx tk) (fold : ∀ x, foldedSetIterable iter X.env x = pure x := by intro _; rfl) :
    PE X (.SetComp kx [⟨tg, iter, ifs, 0⟩] scope pos) (tScI X.w wi g tt tk (own.map (·.2))) := by
  constructor
  intro pins s σ H Q I h
  rw [PpSet.eval_SetComp]
  refine scI_core calm nd I pi bk pg pt pk fold h fun D C t ms H' I' hQ hns f => ⟨ms, hns, fun h2 sb => ?_⟩
  exact ⟨.ref D, H', I'.turned (t' := t.toks) (fun b o hb e => (sb.2 b hb).trans e) f.1 f.2.1 f.2.2.2.1 f.2.2.2.2.1 f.2.2.2.2.2, rfl, hQ⟩
end
/-- over any walk: Pv by the turn and the heap -/
theorem scI_it {ww : World} {J : It} {n : Nat} {G : Hp → Prop} {Y : Nat → Hp → V → Hp → Prop} (w : Walk J n G Y) {g : TG} {tt : TT} {tk : TE} {own : List Nat} {σ : L2.St} {Ha : Hp} {D : Addr} {Qd : Hp → Prop} (Pv : Nat → Hp → Prop) (start : Pv 0 (upd Ha D (SetO ww D (fun _ => false) 0))) (stays : ∀ i H, i ≤ n → Pv i H → G H)
    (turn : ∀ i x H H', i < n → Pv i H → Y i H x H' → g x (wipe σ own) H' fun σ2 H2 => wipe σ2 own = wipe σ own ∧ tt σ2 H2 fun b H3 => if b = true then tk σ2 H3 fun y H4 => AddI ww D y H4 (Pv (i + 1)) else Pv (i + 1) H3)
    (after : ∀ H, Pv n H → Qd H) :
    ∃ W : Nat → Nat → Hp → Prop, (∃ m, W 0 m (upd Ha D (SetO ww D (fun _ => false) 0))) ∧ ∀ i m Hb, W i m Hb → (J.stop i Hb ∧ Qd Hb) ∨
      (J.go i Hb ∧ ∃ N : Hp → Prop, (∀ Hc, N Hc → ∃ m', m' < m ∧ W (i + 1) m' Hc) ∧ ∀ x Hc, J.yld i Hb x Hc →
        g x (wipe σ own) Hc fun σ2 H2 => wipe σ2 own = wipe σ own ∧ tt σ2 H2 fun b H3 => if b = true then tk σ2 H3 fun y H4 => AddI ww D y H4 N else N H3) := by
  refine ⟨fun i m H => m + i = n ∧ Pv i H, ⟨n, by omega, start⟩, fun i m Hb h => ?_⟩
  have ⟨e, p⟩ := h
  have ok := stays i Hb (by omega) p
  rcases Nat.lt_or_ge i n with lt | ge
  · refine .inr ⟨w.goes i Hb lt ok, Pv (i + 1), fun Hc q => ⟨m - 1, by omega, by omega, q⟩, fun x Hc y => turn i x Hb Hc lt p (w.yields i Hb x Hc lt ok y)⟩
  · obtain rfl : i = n := by omega
    exact .inl ⟨w.stops Hb ok, after Hb p⟩
end Vf

set_option Elab.async false
set_option linter.all false
set_option maxRecDepth 100000
set_option maxHeartbeats 4000000
namespace Vf
open PySem PySem.Spec PyProof.Rows L2 TL
/-! ### rows of things, nets -/
def nV (w : Nat) : V := .int (w : Int)
def oV : Option Int → V
  | none => .non
  | some x => .int x
theorem oV_inj : ∀ {a b : Option Int}, oV a = oV b → a = b
  | none, none, _ => rfl
  | some _, some _, h => by rw [V.int.inj h]
  | none, some _, h => by cases h
  | some _, none, h => by cases h
theorem szN {n : Nat} (h : n < 100000) : n < sizeLine := Nat.lt_of_lt_of_le h (by decide)
theorem bTr {p : Prop} [Decidable p] (h : p) : V.bl (decide p) = V.bl true := by rw [decide_eq_true h]
theorem bFa {p : Prop} [Decidable p] (h : ¬ p) : V.bl (decide p) = V.bl false := by rw [decide_eq_false h]
theorem bNT {p : Prop} [Decidable p] (h : p) : V.bl (!decide p) = V.bl false := by rw [decide_eq_true h]; rfl
theorem bNF {p : Prop} [Decidable p] (h : ¬ p) : V.bl (!decide p) = V.bl true := by rw [decide_eq_false h]; rfl
/-- what stands in a list or tuple, thing by thing -/
def LV {α : Type} (R : V → α → Prop) (vs : List V) (rs : List α) : Prop := vs.length = rs.length ∧ ∀ (i : Nat) (r : α), rs[i]? = some r → ∃ x, vs[i]? = some x ∧ R x r
theorem LV.nil {α : Type} {R : V → α → Prop} : LV R [] [] := ⟨rfl, fun i r h => by cases i <;> cases h⟩
theorem LV.mono {α : Type} {R R' : V → α → Prop} {vs : List V} {rs : List α} (h : LV R vs rs) (k : ∀ x r, R x r → R' x r) : LV R' vs rs := ⟨h.1, fun i r e => by
  obtain ⟨x, e1, e2⟩ := h.2 i r e
  exact ⟨x, e1, k _ _ e2⟩⟩
theorem LV.snoc {α : Type} {R : V → α → Prop} {vs : List V} {rs : List α} {x : V} {r : α} (h : LV R vs rs) (hx : R x r) : LV R (vs ++ [x]) (rs ++ [r]) := by
  refine ⟨by rw [List.length_append, List.length_append, h.1]; rfl, fun i q e => ?_⟩
  by_cases hi : i < rs.length
  · rw [List.getElem?_append_left hi] at e
    obtain ⟨y, e1, e2⟩ := h.2 i q e
    exact ⟨y, by rw [List.getElem?_append_left (by rw [h.1]; exact hi)]; exact e1, e2⟩
  · rw [List.getElem?_append_right (by omega)] at e
    have e0 : i - rs.length = 0 := by
      have := (List.getElem?_eq_some_iff.mp e).1
      simp at this
      exact this
    rw [e0] at e
    have e : r = q := Option.some.inj e
    subst e
    exact ⟨x, by rw [List.getElem?_append_right (by rw [h.1]; omega), h.1, e0]; rfl, hx⟩
theorem LV.at {α : Type} {R : V → α → Prop} {vs : List V} {rs : List α} {i : Nat} {x : V} (h : LV R vs rs) (e : vs[i]? = some x) : ∃ r, rs[i]? = some r ∧ R x r := by
  have hi : i < rs.length := by rw [← h.1]; exact (List.getElem?_eq_some_iff.mp e).1
  obtain ⟨y, e1, e2⟩ := h.2 i _ (List.getElem?_eq_getElem hi)
  rw [e] at e1
  have := Option.some.inj e1
  subst this
  exact ⟨_, List.getElem?_eq_getElem hi, e2⟩
abbrev Arc := Nat × Nat × Nat
def ArcV (H : Hp) (x : V) (r : Arc) : Prop := ∃ b, x = .ref b ∧ H b = some (.tup [nV r.1, nV r.2.1, nV r.2.2])
theorem ArcV.mono {H H' : Hp} {x : V} {r : Arc} (h : ArcV H x r) (k : ∀ a xs, H a = some (.tup xs) → H' a = some (.tup xs)) : ArcV H' x r := by
  obtain ⟨b, e, f⟩ := h
  exact ⟨b, e, k _ _ f⟩
theorem kpTup {d l : Addr} {H H' : Hp} (D : DI d l H) (k : Kp d H H') : ∀ a xs, H a = some (.tup xs) → H' a = some (.tup xs) := fun a xs e => by
  obtain ⟨n, ⟨ns, h1⟩, i, b, s, c, h0, h2⟩ := D
  exact k _ _ (fun z => by rw [z, h2] at e; cases e) e
end Vf

set_option Elab.async false
set_option linter.all false
set_option maxRecDepth 100000
set_option maxHeartbeats 4000000
namespace Vf
open PySem PySem.Spec PyProof.Rows L2 TL
/-! ### data made of tuples -/
/-- all tuples stand -/
def TK (H H' : Hp) : Prop := ∀ a xs, H a = some (.tup xs) → H' a = some (.tup xs)
theorem TK.refl (H : Hp) : TK H H := fun _ _ h => h
theorem TK.trans {H H1 H2 : Hp} (a : TK H H1) (b : TK H1 H2) : TK H H2 := fun x xs h => b x xs (a x xs h)
theorem TK.kp {d l : Addr} {H H' : Hp} (D : DI d l H) (k : Kp d H H') : TK H H' := kpTup D k
theorem TK.same {H H' : Hp} (k : Same H H') : TK H H' := fun a xs e => k _ _ e
theorem TK.new {H H' : Hp} {p : Addr} {o : HO} (k : TK H H') (hp : H' p = none) : TK H (upd H' p o) := fun a xs e => by
  have e := k _ _ e
  rw [upd_ne (ne_of_none e hp)]; exact e
theorem TK.mut {H H' : Hp} {p : Addr} {us : List V} {o : HO} (k : TK H H') (hp : H' p = some (.lst us)) : TK H (upd H' p o) := fun a xs e => by
  have e := k _ _ e
  have n : a ≠ p := fun z => by rw [z, hp] at e; cases e
  rw [upd_ne n]; exact e
/-- a relation of things that holds on while all tuples stand -/
structure Mn {α : Type} (R : Hp → V → α → Prop) : Prop where
  to : ∀ {H H' : Hp} {v : V} {x : α}, R H v x → TK H H' → R H' v x
def natR : Hp → V → Nat → Prop := fun _ v n => v = nV n
theorem nV_inj {a b : Nat} (h : nV a = nV b) : a = b := by
  have := V.int.inj h
  omega
theorem natR_mn : Mn natR := ⟨fun h _ => h⟩
def TupR {α : Type} (R : Hp → V → α → Prop) (H : Hp) (v : V) (xs : List α) : Prop := ∃ a us, v = .ref a ∧ H a = some (.tup us) ∧ LV (R H) us xs
theorem TupR.mn {α : Type} {R : Hp → V → α → Prop} (m : Mn R) : Mn (TupR R) := ⟨fun h k => by
  obtain ⟨a, us, e, h1, h2⟩ := h
  exact ⟨a, us, e, k _ _ h1, h2.mono fun _ _ z => m.to z k⟩⟩
def PairR {α β : Type} (R : Hp → V → α → Prop) (S : Hp → V → β → Prop) (H : Hp) (v : V) (p : α × β) : Prop := ∃ a u w, v = .ref a ∧ H a = some (.tup [u, w]) ∧ R H u p.1 ∧ S H w p.2
theorem PairR.mn {α β : Type} {R : Hp → V → α → Prop} {S : Hp → V → β → Prop} (m : Mn R) (n : Mn S) : Mn (PairR R S) := ⟨fun h k => by
  obtain ⟨a, u, w, e, h1, h2, h3⟩ := h
  exact ⟨a, u, w, e, k _ _ h1, m.to h2 k, n.to h3 k⟩⟩
theorem LV.nats : ∀ {us : List V} {xs : List Nat}, LV (natR H) us xs → us = xs.map nV := by
  intro us xs h
  refine List.ext_getElem? fun i => ?_
  rw [List.getElem?_map]
  by_cases hi : i < xs.length
  · obtain ⟨x, e, r⟩ := h.2 i _ (List.getElem?_eq_getElem hi)
    rw [e, List.getElem?_eq_getElem hi, show x = nV xs[i] from r]; rfl
  · rw [List.getElem?_eq_none (by rw [h.1]; omega), List.getElem?_eq_none (by omega)]; rfl
theorem LV.of_nats (H : Hp) (xs : List Nat) : LV (natR H) (xs.map nV) xs := ⟨List.length_map _, fun i r e => ⟨nV r, by rw [List.getElem?_map, e]; rfl, rfl⟩⟩
/-- a tuple of numbers -/
def NsR : Hp → V → List Nat → Prop := fun H v xs => ∃ a, v = .ref a ∧ H a = some (.tup (xs.map nV))
theorem NsR.mn : Mn NsR := ⟨fun h k => by
  obtain ⟨a, e, h⟩ := h
  exact ⟨a, e, k _ _ h⟩⟩
theorem NsR.of {H : Hp} {v : V} {xs : List Nat} (h : TupR natR H v xs) : NsR H v xs := by
  obtain ⟨a, us, e, h1, h2⟩ := h
  rw [h2.nats] at h1
  exact ⟨a, e, h1⟩
theorem NsR.new {H : Hp} {p : Addr} {xs : List Nat} : NsR (upd H p (.tup (xs.map nV))) (.ref p) xs := ⟨p, rfl, upd_same⟩
theorem LV.get {α : Type} {R : V → α → Prop} {vs : List V} {rs : List α} {i : Nat} (h : LV R vs rs) (hi : i < rs.length) : ∃ x, vs[i]? = some x ∧ R x rs[i] := h.2 i _ (List.getElem?_eq_getElem hi)
theorem LV.get0 {α : Type} {R : V → α → Prop} {vs : List V} {rs : List α} {i : Nat} (d : α) (h : LV R vs rs) (hi : i < rs.length) : ∃ x, vs[i]? = some x ∧ R x (rs.getD i d) := by
  obtain ⟨x, e, r⟩ := h.get hi
  refine ⟨x, e, ?_⟩
  rw [List.getD_eq_getElem?_getD, List.getElem?_eq_getElem hi]; exact r
theorem LV.app2 {α : Type} {R : V → α → Prop} {us vs : List V} {rs ss : List α} (h : LV R us rs) (k : LV R vs ss) : LV R (us ++ vs) (rs ++ ss) := by
  refine ⟨by rw [List.length_append, List.length_append, h.1, k.1], fun i r e => ?_⟩
  by_cases hi : i < rs.length
  · rw [List.getElem?_append_left hi] at e
    obtain ⟨y, e1, e2⟩ := h.2 i r e
    exact ⟨y, by rw [List.getElem?_append_left (by rw [h.1]; exact hi)]; exact e1, e2⟩
  · rw [List.getElem?_append_right (by omega)] at e
    obtain ⟨y, e1, e2⟩ := k.2 _ r e
    exact ⟨y, by rw [List.getElem?_append_right (by rw [h.1]; omega), h.1]; exact e1, e2⟩
theorem nat_at {xs : List Nat} {i : Nat} (h : i < xs.length) : (xs.map nV)[i]? = some (nV (xs.getD i 0)) := by
  rw [List.getElem?_map, List.getD_eq_getElem?_getD, List.getElem?_eq_getElem h]; rfl
theorem getD_mem {α : Type} {xs : List α} {i : Nat} {d : α} (h : i < xs.length) : xs.getD i d ∈ xs := by
  rw [List.getD_eq_getElem?_getD, List.getElem?_eq_getElem h]; exact List.getElem_mem h
theorem getD_of {α : Type} {xs : List α} {i : Nat} {x d : α} (h : xs[i]? = some x) : xs.getD i d = x := by
  rw [List.getD_eq_getElem?_getD, h]; rfl
theorem take_one {α : Type} {xs : List α} {i : Nat} {x : α} (h : xs[i]? = some x) : xs.take (i + 1) = xs.take i ++ [x] := by
  rw [List.take_add_one, h]; rfl
theorem take_oneD {α : Type} {xs : List α} {i : Nat} (d : α) (h : i < xs.length) : xs.take (i + 1) = xs.take i ++ [xs.getD i d] := by
  rw [take_one (List.getElem?_eq_getElem h), List.getD_eq_getElem?_getD, List.getElem?_eq_getElem h]; rfl
theorem mem_at {α : Type} {xs : List α} {x : α} (h : x ∈ xs) : ∃ i, i < xs.length ∧ xs[i]? = some x := by
  obtain ⟨i, hi, e⟩ := List.mem_iff_getElem.mp h
  exact ⟨i, hi, by rw [List.getElem?_eq_getElem hi, e]⟩
theorem flat_nats (xs : List Nat) : (xs.map nV).all flatV = true := List.all_eq_true.mpr fun v hv => by
  obtain ⟨x, _, rfl⟩ := List.mem_map.mp hv
  rfl
theorem eqV_nat (x y : Nat) : eqV (nV y) (nV x) = decide (y = x) := by
  show eqV (.int (y : Int)) (.int (x : Int)) = _
  by_cases h : y = x
  · subst h; rw [decide_eq_true rfl]; simp [eqV]
  · rw [decide_eq_false h]
    have : ¬ (y : Int) = (x : Int) := by omega
    simp [eqV, this]
theorem inV_nats (x : Nat) (xs : List Nat) : inV (nV x) (xs.map nV) = decide (x ∈ xs) := by
  unfold inV
  rw [List.any_map]
  by_cases h : x ∈ xs
  · rw [decide_eq_true h]
    refine List.any_eq_true.mpr ⟨x, h, ?_⟩
    show eqV (nV x) (nV x) = true
    rw [eqV_nat]; exact decide_eq_true rfl
  · rw [decide_eq_false h]
    refine List.any_eq_false.mpr fun y hy => ?_
    show ¬ eqV (nV y) (nV x) = true
    rw [eqV_nat]
    exact fun z => h (of_decide_eq_true z ▸ hy)
/-! ### what is met, each thing once -/
def met : List Nat → List Nat := fun l => l.foldl (fun acc x => if x ∈ acc then acc else acc ++ [x]) []
theorem met_snoc (l : List Nat) (x : Nat) : met (l ++ [x]) = if x ∈ met l then met l else met l ++ [x] := by
  unfold met; rw [List.foldl_append]; rfl
theorem list_snoc {α : Type} {p : List α → Prop} (h0 : p []) (hs : ∀ l x, p l → p (l ++ [x])) : ∀ l, p l := by
  intro l
  have : ∀ n (l : List α), l.length = n → p l := by
    intro n
    induction n with
    | zero => intro l e; rw [List.length_eq_zero_iff.mp e]; exact h0
    | succ n ih =>
      intro l e
      have hne : l ≠ [] := fun z => by rw [z] at e; cases e
      rw [← List.dropLast_concat_getLast hne]
      exact hs _ _ (ih _ (by rw [List.length_dropLast, e]; rfl))
  exact this _ l rfl
theorem met_mem (l : List Nat) : ∀ x, x ∈ met l ↔ x ∈ l := by
  refine list_snoc (p := fun l => ∀ x, x ∈ met l ↔ x ∈ l) (fun x => Iff.rfl) (fun l y ih x => ?_) l
  rw [met_snoc, List.mem_append, List.mem_singleton]
  by_cases h : y ∈ met l
  · rw [if_pos h, ih]
    exact ⟨.inl, fun z => z.elim id fun e => e ▸ (ih y).mp h⟩
  · rw [if_neg h, List.mem_append, ih, List.mem_singleton]
theorem met_nodup (l : List Nat) : (met l).Nodup := by
  refine list_snoc (p := fun l => (met l).Nodup) List.nodup_nil (fun l y ih => ?_) l
  rw [met_snoc]
  by_cases h : y ∈ met l
  · rw [if_pos h]; exact ih
  · rw [if_neg h, List.nodup_append]
    exact ⟨ih, by simp, fun a ha b hb e => h (by rw [List.mem_singleton.mp hb] at e; exact e ▸ ha)⟩
theorem met_len (l : List Nat) : (met l).length ≤ l.length := by
  refine list_snoc (p := fun l => (met l).length ≤ l.length) (Nat.le_refl _) (fun l y ih => ?_) l
  rw [met_snoc, List.length_append]
  split
  · exact Nat.le_trans ih (Nat.le_add_right _ _)
  · rw [List.length_append]; exact Nat.add_le_add_right ih _
theorem perm_nodup {α : Type} [DecidableEq α] : ∀ {xs ys : List α}, xs.Nodup → ys.Nodup → (∀ x, x ∈ xs ↔ x ∈ ys) → xs.Perm ys
  | [], ys, _, _, h => by
    cases ys with
    | nil => exact .nil
    | cons y ys => exact absurd ((h y).mpr List.mem_cons_self) (by simp)
  | x :: xs, ys, hx, hy, h => by
    have ⟨nx, hx⟩ := List.nodup_cons.mp hx
    have mx := (h x).mp List.mem_cons_self
    refine (List.Perm.cons x (perm_nodup (ys := ys.erase x) hx (hy.erase x) fun z => ?_)).trans (List.perm_cons_erase mx).symm
    rw [hy.mem_erase_iff]
    constructor
    · intro hz
      exact ⟨fun e => nx (e ▸ hz), (h z).mp (List.mem_cons_of_mem _ hz)⟩
    · rintro ⟨ne, hz⟩
      exact (List.mem_cons.mp ((h z).mpr hz)).resolve_left ne
theorem sum_cast : ∀ xs : List Nat, (xs.map (fun x : Nat => (x : Int))).sum = ((xs.sum : Nat) : Int)
  | [] => rfl
  | x :: xs => by rw [List.map_cons, List.sum_cons, List.sum_cons, sum_cast xs]; omega
theorem map_nV (xs : List Nat) : xs.map nV = (xs.map (fun x : Nat => (x : Int))).map V.int := by
  rw [List.map_map]; rfl
theorem sum_perm {xs ys : List Nat} (h : xs.Perm ys) : xs.sum = ys.sum := by
  induction h with
  | nil => rfl
  | cons x _ ih => rw [List.sum_cons, List.sum_cons, ih]
  | swap x y l => simp only [List.sum_cons]; omega
  | trans _ _ a b => exact a.trans b
theorem nat_cmp (f : Int → Int → Bool) (x y : Nat) : V.bl (f (x : Int) (y : Int)) = V.bl (f (x : Int) (y : Int)) := rfl
theorem int_nats : ∀ {ns : List Int}, (∀ x ∈ ns, ∃ k : Nat, x = (k : Int)) → ∃ ms : List Nat, ns = ms.map fun x : Nat => (x : Int)
  | [], _ => ⟨[], rfl⟩
  | x :: ns, h => by
    obtain ⟨k, rfl⟩ := h x List.mem_cons_self
    obtain ⟨ms, rfl⟩ := int_nats (ns := ns) fun y hy => h y (List.mem_cons_of_mem _ hy)
    exact ⟨k :: ms, rfl⟩
theorem nodup_of_lt {ms : List Nat} (h : (ms.map fun x : Nat => (x : Int)).Pairwise (· < ·)) : ms.Nodup := by
  rw [List.pairwise_map] at h
  exact h.imp fun {a b} z e => by subst e; omega
theorem map_Vint (ms : List Nat) : (ms.map fun x : Nat => (x : Int)).map V.int = ms.map nV := by rw [List.map_map]; rfl
theorem Same.mn {α : Type} {R : Hp → V → α → Prop} (m : Mn R) {H H' : Hp} {v : V} {x : α} (h : R H v x) (k : Same H H') : R H' v x := m.to h (TK.same k)
end Vf

set_option Elab.async false
set_option linter.all false
set_option maxRecDepth 100000
set_option maxHeartbeats 4000000
namespace Vf
open PySem PySem.Spec PyProof.Rows L2 TL
def waysL (C fs : List (List Nat)) (s : Nat) : Nat := ((met (fs.map (·.getD s 0))).map fun x => (C.getD s []).getD x 0).sum
/-- the shapes of this secret are numbers of its counts -/
def FsOk (C fs : List (List Nat)) (s : Nat) : Prop := ∀ f ∈ fs, s < f.length ∧ f.getD s 0 < (C.getD s []).length
theorem met_ok {C fs : List (List Nat)} {s : Nat} (ok : FsOk C fs s) : ∀ x ∈ met (fs.map (·.getD s 0)), x < (C.getD s []).length := fun x hx => by
  obtain ⟨f, hf, rfl⟩ := List.mem_map.mp ((met_mem _ x).mp hx)
  exact (ok f hf).2
section
variable {P : Program} {w : World} {K : PySem.W.Frag} {mg : Str → Option Value} {base : Heap}
def spWays (K : PySem.W.Frag) : Sp := fun vs H Q _ => ∃ (c : V) (a : Addr) (us : List V) (C fs : List (List Nat)) (s : Nat), vs = [c, .ref a, nV s] ∧ TupR NsR H c C ∧ H a = some (.lst us) ∧ LV (NsR H) us fs ∧ s < C.length ∧ FsOk C fs s ∧ fs.length < 64 ∧
  ∀ H', Same H H' → Q (nV (waysL C fs s)) H'
theorem ok_ways_in (T : Txt K mg) : FnOk P w K mg base CX0 1 T.a_ways_in T.d_ways_in ["counts", "fillings", "secret"] (spWays K) := by
  refine T.D_ways_in.F.ok sc_ways_in (fun vs H Q E h => ?_) (fun cdv A outer s H vs Q E hr h => ?_)
  · obtain ⟨c, a, us, C, fs, s, rfl, _⟩ := h
    rfl
  · obtain ⟨c, a, us, C, fs, s, rfl, hC, ha, lv, hs, ok, l64, q⟩ := h
    refine ⟨_, (pss_one (ps_ret (pe_callB (cr_sum (by rfl)) (by rfl) T.n_sum (by decide +kernel) (pa_cons (pe_lc (own := [("shape", 4)]) (g := gName 4) (tt := tYes) rfl sc_ways_in.nd (pi_list (pe_callB (cr_sortedSet (by rfl)) (by rfl) T.n_sorted (by decide +kernel) (pa_cons (pe_scI (own := [("filling", 3)]) (g := gName 3) (tt := tYes) rfl sc_ways_in.nd (pi_list (pv 1)) (blkOk_by (own := [("filling", 3)]) (N := ["counts", "fillings", "secret", "filling", "shape"]) (sc := (defScope s_ways_in)) (by decide +kernel)) (fun _ _ _ _ _ => (pg_name (i := 3) sc_ways_in.nd rfl (.inl rfl))) (fun _ _ _ _ _ => pts_nil) (fun _ _ _ _ _ => (pe_ix (r := rIxT K) ix_tup (pv 3) (pv 2) (fun _ _ => rfl)))) pa_nil))) (blkOk_by (own := [("shape", 4)]) (N := ["counts", "fillings", "secret", "filling", "shape"]) (sc := (defScope s_ways_in)) (by decide +kernel)) (fun _ _ _ _ _ => (pg_name (i := 4) sc_ways_in.nd rfl (.inl rfl))) (fun _ _ _ _ _ => pts_nil) (fun _ _ _ _ _ => (pe_ix (r := rIxT K) ix_tup (pe_ix (r := rIxT K) ix_tup (pv 0) (pv 2) (fun _ _ => rfl)) (pv 4) (fun _ _ => rfl)))) pa_nil)))), ?_⟩
    obtain ⟨ca, cus, rfl, eC, lC⟩ := hC
    have lu := lv.1
    refine ⟨_, rfl, a, rfl, ⟨_, SqL.of ha⟩, fun D nD => ?_⟩
    have st : Same H (upd H D (SetO w D (fun _ => false) 0)) := same_upd (Same.refl H) nD
    refine scI_it (ww := w) (walk_list (K := K) (a := a) (xs := us)) (fun i H' => ∃ (S : Int → Bool) (n : Nat), H' D = some (SetO w D S n) ∧ n ≤ i ∧ (∀ x : Int, S x = true ↔ ∃ k : Nat, x = (k : Int) ∧ k ∈ (fs.take i).map (·.getD s 0)) ∧ Same H H') ⟨_, 0, upd_same, Nat.le_refl _, fun x => ⟨(fun z => by cases z), fun ⟨k, _, z⟩ => by cases z⟩, st⟩ ?_ ?_ ?_
    · rintro i H' _ ⟨S, n, _, _, _, k⟩
      exact SqL.of (k _ _ ha)
    · rintro i x H1 H2 hi ⟨S, n, eD, ln, hS, k⟩ ⟨rfl, hx⟩
      obtain ⟨f, ef, p, rfl, ep⟩ := lv.at hx
      have fm := ok f (List.mem_of_getElem? ef)
      refine ⟨rfl, ?_⟩
      refine ⟨_, rfl, _, rfl, p, _, _, _, rfl, rfl, SqT.of (k _ _ ep), atI_nat (nat_at fm.1), ?_⟩
      refine ⟨_, S, n, rfl, eD, Nat.lt_of_lt_of_le (show n + 1 < 66 by omega) (by decide), _, _, upd_same, ?_, fun x => ?_, same_mut k nD⟩
      · split <;> omega
      · rw [Bool.or_eq_true, hS, decide_eq_true_eq, take_one ef, List.map_append]
        constructor
        · rintro (⟨k, e, h⟩ | e)
          · exact ⟨k, e, List.mem_append_left _ h⟩
          · exact ⟨f.getD s 0, e, List.mem_append_right _ (List.mem_singleton.mpr rfl)⟩
        · rintro ⟨k, e, h⟩
          rcases List.mem_append.mp h with h | h
          · exact .inl ⟨k, e, h⟩
          · exact .inr (by rw [e, List.mem_singleton.mp h])
    · rintro H1 ⟨S, n, eD, ln, hS, k⟩
      rw [List.take_of_length_le (by omega)] at hS
      refine ⟨D, S, n, rfl, eD, by omega, fun ns p pw hm el np => ?_⟩
      obtain ⟨ms, rfl⟩ := int_nats fun x hx => by
        obtain ⟨k, e, _⟩ := (hS x).mp ((hm x).mp hx)
        exact ⟨k, e⟩
      have hmm : ∀ x, x ∈ ms ↔ x ∈ met (fs.map (·.getD s 0)) := fun x => by
        rw [met_mem]
        constructor
        · intro h
          obtain ⟨k, e, h2⟩ := (hS _).mp ((hm (x : Int)).mp (List.mem_map.mpr ⟨x, h, rfl⟩))
          have : x = k := by omega
          rw [this]; exact h2
        · intro h
          obtain ⟨y, h2, e⟩ := List.mem_map.mp ((hm (x : Int)).mpr ((hS _).mpr ⟨x, rfl, h⟩))
          have : y = x := by omega
          rw [← this]; exact h2
      have pm : ms.Perm (met (fs.map (·.getD s 0))) := perm_nodup (nodup_of_lt pw) (met_nodup _) hmm
      rw [map_Vint]
      have k2 := same_upd (o := .lst (ms.map nV)) k np
      have ep : upd H1 p (.lst (ms.map nV)) p = some (.lst (ms.map nV)) := upd_same
      generalize upd H1 p (.lst (ms.map nV)) = H2 at k2 ep
      refine ⟨p, rfl, ⟨_, SqL.of ep⟩, fun D2 nD2 => ?_⟩
      have nD2H : H D2 = none := by
        cases e : H D2 with
        | none => rfl
        | some o => rw [k2 _ _ e] at nD2; cases nD2
      obtain ⟨cp, eg, cv, rfl, ecv⟩ := lC.get0 [] hs
      have lm : ms.length ≤ 64 := by rw [pm.length_eq]; exact Nat.le_trans (met_len _) (by rw [List.length_map]; omega)
      refine lc_it (walk_list (K := K) (a := p) (xs := ms.map nV)) (fun i H' => H' D2 = some (.lst ((ms.take i).map fun x => nV ((C.getD s []).getD x 0))) ∧ Same H2 H') ⟨upd_same, same_upd (Same.refl H2) nD2⟩ ?_ ?_ ?_
      · rintro i H' _ ⟨_, k⟩
        exact SqL.of (k _ _ ep)
      · rintro i x H3 H4 hi ⟨eD2, k3⟩ ⟨rfl, hx⟩
        rw [List.length_map] at hi
        rw [nat_at hi] at hx
        have hx := Option.some.inj hx
        subst hx
        have hb : ms.getD i 0 < (C.getD s []).length := met_ok ok _ ((hmm _).mp (getD_mem hi))
        refine ⟨rfl, ?_⟩
        refine ⟨_, rfl, _, rfl, ca, _, _, _, rfl, rfl, SqT.of (k3 _ _ (k2 _ _ eC)), atI_nat eg, _, rfl, _, _, _, _, rfl, rfl, SqT.of (k3 _ _ (k2 _ _ ecv)), atI_nat (nat_at hb), ?_⟩
        refine ⟨_, eD2, szN (by rw [List.length_map, List.length_take]; omega), ?_, same_mut k3 nD2⟩
        rw [upd_same, take_oneD 0 hi, List.map_append]; rfl
      · rintro H3 ⟨eD2, k3⟩
        rw [List.length_map, List.take_length] at eD2
        refine ⟨D2, (ms.map fun x => (C.getD s []).getD x 0).map (fun x : Nat => (x : Int)), rfl, .inl (.inl ?_), ?_⟩
        · rw [eD2, map_Vint, List.map_map]; rfl
        · rw [sum_cast, sum_perm (pm.map _)]
          exact q _ (k2.trans k3)
theorem ok_ways (T : Txt K mg) : FnOk P w K mg base CX0 1 T.a_law_ways T.d_law_ways ["_law_counts", "_law_fillings", "_law_secret"] (spWays K) := by
  refine T.D_law_ways.F.ok sc_law_ways (fun vs H Q E h => ?_) (fun cdv A outer s H vs Q E hr h => ?_)
  · obtain ⟨c, a, us, C, fs, s, rfl, _⟩ := h
    rfl
  · obtain ⟨c, a, us, C, fs, s, rfl, hC, ha, lv, hs, ok, l64, q⟩ := h
    refine ⟨_, (pss_cons (ps_set (i := 3) sc_law_ways.nd rfl (.inl rfl) (pe_lst pa_nil))
      (pss_cons (ps_for PassesOwn.never rfl (pi_list (pv 1)) (pg_name (i := 4) sc_law_ways.nd rfl (.inl rfl)) (pss_one (ps_if (pt_cmpR op_notIn_seq (pe_ix ix_tup (pv 4) (pv 2) (fun _ _ => rfl)) (pv 3) (by rfl)) (pss_one (ps_expr (pe_bm PySem.F.plainAttrs_list PySem.F.slot_list_append PySem.F.type_list_append mt_append (pv 3) (pa_cons (pe_ix ix_tup (pv 4) (pv 2) (fun _ _ => rfl)) pa_nil)))) pss_nil)))
      (pss_one (ps_ret (pe_callB (cr_sum (by rfl)) (by rfl) T.n_sum (by decide +kernel) (pa_cons (pe_lc (own := [("_law_shape", 5)]) (g := gName 5) (tt := tYes) rfl sc_law_ways.nd (pi_list (pv 3)) (blkOk_by (own := [("_law_shape", 5)]) (N := ["_law_counts", "_law_fillings", "_law_secret", "_law_seen", "_law_filling", "_law_shape"]) (sc := (defScope s_law_ways)) (by decide +kernel)) (fun _ _ _ _ _ => (pg_name (i := 5) sc_law_ways.nd rfl (.inl rfl))) (fun _ _ _ _ _ => pts_nil) (fun _ _ _ _ _ => (pe_ix (r := rIxT K) ix_tup (pe_ix (r := rIxT K) ix_tup (pv 0) (pv 2) (fun _ _ => rfl)) (pv 5) (fun _ _ => rfl)))) pa_nil)))))), ?_⟩
    obtain ⟨ca, cus, rfl, eC, lC⟩ := hC
    have lu := lv.1
    refine ⟨by show 0 ≤ sizeLine; decide, fun L nL => ?_⟩
    have k0 := same_upd (o := .lst []) (Same.refl H) nL
    refine ⟨_, rfl, a, rfl, ⟨_, SqL.of (k0 _ _ ha)⟩, ?_⟩
    refine for_it (walk_list (K := K) (a := a) (xs := us)) (fun i σ' H' => ∃ (x4 x5 : Option V), σ' = [some (.ref ca), some (.ref a), some (nV s), some (.ref L), x4, x5] ∧ Same H H' ∧ H' L = some (.lst ((met ((fs.take i).map (·.getD s 0))).map nV))) ⟨none, none, rfl, k0, upd_same⟩ ?_ ?_ ?_
    · rintro i σ' H' _ ⟨_, _, _, k, _⟩
      exact SqL.of (k _ _ ha)
    · rintro i x σ' H1 H2 hi ⟨x4, x5, rfl, k, eL⟩ ⟨rfl, hx⟩
      obtain ⟨f, ef, p, rfl, ep⟩ := lv.at hx
      have fm := ok f (List.mem_of_getElem? ef)
      have lt : (met ((fs.take i).map (·.getD s 0))).length ≤ i := Nat.le_trans (met_len _) (by rw [List.length_map, List.length_take]; omega)
      have em : met ((fs.take (i + 1)).map (·.getD s 0)) = if f.getD s 0 ∈ met ((fs.take i).map (·.getD s 0)) then met ((fs.take i).map (·.getD s 0)) else met ((fs.take i).map (·.getD s 0)) ++ [f.getD s 0] := by
        rw [take_one ef, List.map_append]; exact met_snoc _ _
      refine ⟨_, rfl, _, rfl, p, _, _, _, rfl, rfl, SqT.of (k _ _ ep), atI_nat (nat_at fm.1), _, rfl, ?_⟩
      refine ⟨L, _, rfl, .inl (SqL.of eL), rfl, flat_nats _, ?_⟩
      rw [inV_nats]
      by_cases h : f.getD s 0 ∈ met ((fs.take i).map (·.getD s 0))
      · refine ⟨false, bNT h, ?_⟩
        refine ⟨_, _, rfl, k, ?_⟩
        rw [em, if_pos h]; exact eL
      · refine ⟨true, bNF h, ?_⟩
        refine ⟨.ref L, rfl, .inl ⟨rfl, _, .inl (.inl eL)⟩, ?_⟩
        refine ⟨_, rfl, _, rfl, p, _, _, _, rfl, rfl, SqT.of (k _ _ ep), atI_nat (nat_at fm.1), ?_⟩
        refine ⟨L, _, _, rfl, rfl, eL, szN (by rw [List.length_map]; omega), ?_⟩
        refine ⟨_, _, rfl, same_mut k nL, ?_⟩
        rw [upd_same, em, if_neg h, List.map_append]; rfl
    · rintro σ' H1 ⟨x4, x5, rfl, k, eL⟩
      rw [List.take_of_length_le (by omega)] at eL
      obtain ⟨cp, eg, cv, rfl, ecv⟩ := lC.get0 [] hs
      have hmk := met_ok ok
      have hml : (met (fs.map (·.getD s 0))).length ≤ 64 := Nat.le_trans (met_len _) (by rw [List.length_map]; omega)
      have eq : waysL C fs s = ((met (fs.map (·.getD s 0))).map fun x => (C.getD s []).getD x 0).sum := rfl
      rw [eq] at q
      generalize met (fs.map (·.getD s 0)) = ms at eL hmk hml q
      refine ⟨_, rfl, L, rfl, ⟨_, SqL.of eL⟩, fun D2 nD2 => ?_⟩
      refine lc_it (walk_list (K := K) (a := L) (xs := ms.map nV)) (fun i H' => H' D2 = some (.lst ((ms.take i).map fun x => nV ((C.getD s []).getD x 0))) ∧ Same H1 H') ⟨upd_same, same_upd (Same.refl H1) nD2⟩ ?_ ?_ ?_
      · rintro i H' _ ⟨_, k⟩
        exact SqL.of (k _ _ eL)
      · rintro i x H3 H4 hi ⟨eD2, k3⟩ ⟨rfl, hx⟩
        rw [List.length_map] at hi
        rw [nat_at hi] at hx
        have hx := Option.some.inj hx
        subst hx
        have hb : ms.getD i 0 < (C.getD s []).length := hmk _ (getD_mem hi)
        refine ⟨rfl, ?_⟩
        refine ⟨_, rfl, _, rfl, ca, _, _, _, rfl, rfl, SqT.of (k3 _ _ (k _ _ eC)), atI_nat eg, _, rfl, _, _, _, _, rfl, rfl, SqT.of (k3 _ _ (k _ _ ecv)), atI_nat (nat_at hb), ?_⟩
        refine ⟨_, eD2, szN (by rw [List.length_map, List.length_take]; omega), ?_, same_mut k3 nD2⟩
        rw [upd_same, take_oneD 0 hi, List.map_append]; rfl
      · rintro H3 ⟨eD2, k3⟩
        rw [List.length_map, List.take_length] at eD2
        refine ⟨D2, (ms.map fun x => (C.getD s []).getD x 0).map (fun x : Nat => (x : Int)), rfl, .inl (.inl ?_), ?_⟩
        · rw [eD2, map_Vint, List.map_map]; rfl
        · rw [sum_cast]
          exact q _ (k.trans k3)
end
end Vf

set_option Elab.async false
set_option linter.all false
set_option maxRecDepth 100000
set_option maxHeartbeats 4000000
namespace Vf
open PySem PySem.Spec PyProof.Rows L2 TL
/-! ### scenes, safe sets -/
abbrev Wt := List Nat × List (List (Nat × Nat))
abbrev RowR := TupR (PairR natR natR)
abbrev WtR := PairR NsR (TupR RowR)
theorem RowR.mn : Mn RowR := TupR.mn (PairR.mn natR_mn natR_mn)
theorem WtR.mn : Mn WtR := PairR.mn NsR.mn (TupR.mn RowR.mn)
def ScR (H : Hp) (v : V) (F C : List (List Nat)) (W : List Wt) : Prop := ∃ a f c wv, v = .ref a ∧ H a = some (.tup [f, c, wv]) ∧ TupR NsR H f F ∧ TupR NsR H c C ∧ TupR WtR H wv W
theorem ScR.mn {H H' : Hp} {v : V} {F C : List (List Nat)} {W : List Wt} (h : ScR H v F C W) (k : TK H H') : ScR H' v F C W := by
  obtain ⟨a, f, c, wv, e, h1, h2, h3, h4⟩ := h
  exact ⟨a, f, c, wv, e, k _ _ h1, (TupR.mn NsR.mn).to h2 k, (TupR.mn NsR.mn).to h3 k, (TupR.mn WtR.mn).to h4 k⟩
def insL (F : List (List Nat)) (gs ms : List Nat) (g : Nat) : List (List Nat) := (ms.filter fun k => decide (gs.getD k 0 = g)).map fun k => F.getD k []
structure WtOk (n : Nat) (F C : List (List Nat)) (wt : Wt) : Prop where
  gl : wt.1.length = n
  gb : ∀ k, k < n → wt.1.getD k 0 < wt.2.length
  nl : wt.2.length ≤ 24
  rl : ∀ row ∈ wt.2, row.length ≤ 6 ∧ ∀ p ∈ row, p.1 < C.length
  sf : ∀ g, g < wt.2.length → ∀ p ∈ wt.2.getD g [], p.2 ≤ waysL C (insL F wt.1 (List.range n) g) p.1
  asc : ∀ row ∈ wt.2, (row.map Prod.fst).Pairwise (· < ·)
structure ScOk (n : Nat) (F C : List (List Nat)) (W : List Wt) : Prop where
  fl : F.length = n
  fm : ∀ f ∈ F, f.length = C.length ∧ ∀ s, s < C.length → f.getD s 0 < (C.getD s []).length
  nn : n ≤ 24
  cl : C.length ≤ 6
  wl : W.length ≤ 5
  wk : ∀ wt ∈ W, WtOk n F C wt
def badG (F C : List (List Nat)) (ms : List Nat) (wt : Wt) (g : Nat) : Bool := ms.any (fun k => decide (wt.1.getD k 0 = g)) && (wt.2.getD g []).any fun p => decide (waysL C (insL F wt.1 ms g) p.1 < p.2)
def unsW (F C : List (List Nat)) (ms : List Nat) (wt : Wt) : Bool := (List.range wt.2.length).any fun g => badG F C ms wt g
def unsB (F C : List (List Nat)) (W : List Wt) (ms : List Nat) : Bool := W.any fun wt => unsW F C ms wt
theorem insL_snoc (F : List (List Nat)) (gs ms : List Nat) (g k : Nat) : insL F gs (ms ++ [k]) g = if gs.getD k 0 = g then insL F gs ms g ++ [F.getD k []] else insL F gs ms g := by
  unfold insL
  rw [List.filter_append]
  by_cases h : gs.getD k 0 = g
  · rw [if_pos h, List.map_append, List.filter_cons_of_pos (by rw [decide_eq_true h])]; rfl
  · rw [if_neg h, List.filter_cons_of_neg (by rw [decide_eq_false h]; decide), List.filter_nil, List.append_nil]
theorem insL_len (F : List (List Nat)) (gs ms : List Nat) (g : Nat) : (insL F gs ms g).length ≤ ms.length := by
  unfold insL; rw [List.length_map]; exact List.length_filter_le _ _
theorem insL_ok {n : Nat} {F C : List (List Nat)} {W : List Wt} (o : ScOk n F C W) {gs ms : List Nat} {g s : Nat} (hm : ∀ k ∈ ms, k < n) (hs : s < C.length) : FsOk C (insL F gs ms g) s := fun f hf => by
  obtain ⟨k, hk, rfl⟩ := List.mem_map.mp hf
  have hk := hm k (List.mem_filter.mp hk).1
  have m : F.getD k [] ∈ F := getD_mem (by rw [o.fl]; exact hk)
  have ⟨a, b⟩ := o.fm _ m
  exact ⟨by rw [a]; exact hs, b s hs⟩
/-- all together are safe -/
theorem ScOk.whole {n : Nat} {F C : List (List Nat)} {W : List Wt} (o : ScOk n F C W) : unsB F C W (List.range n) = false := by
  refine List.any_eq_false.mpr fun wt hw => ?_
  have wo := o.wk wt hw
  have e : unsW F C (List.range n) wt = false := by
    refine List.any_eq_false.mpr fun g hg => ?_
    have hg := List.mem_range.mp hg
    have e2 : ((wt.2.getD g []).any fun p => decide (waysL C (insL F wt.1 (List.range n) g) p.1 < p.2)) = false := by
      refine List.any_eq_false.mpr fun p hp => ?_
      have := wo.sf g hg p hp
      rw [decide_eq_false (by omega)]; decide
    unfold badG
    rw [e2, Bool.and_false]; decide
  rw [e]; decide
section
variable {P : Program} {w : World} {K : PySem.W.Frag} {mg : Str → Option Value} {base : Heap}
def spSafe : Sp := fun vs H Q _ => ∃ (sc : V) (m : Addr) (n : Nat) (F C : List (List Nat)) (W : List Wt) (ms : List Nat), vs = [sc, .ref m] ∧ ScR H sc F C W ∧ ScOk n F C W ∧ H m = some (.tup (ms.map nV)) ∧ (∀ k ∈ ms, k < n) ∧ ms.length < 64 ∧
  ∀ H', Same H H' → Q (.bl (!unsB F C W ms)) H'
theorem ok_safe (T : Txt K mg) : FnOk P w K mg base CX0 2 T.a_is_safe T.d_is_safe ["scene", "members"] spSafe := by
  have G_ways_in : FnOk P w K mg base CX0 1 T.a_ways_in T.d_ways_in ["counts", "fillings", "secret"] (spWays K) := ok_ways_in T
  refine T.D_is_safe.F.ok sc_is_safe (fun vs H Q E h => ?_) (fun cdv A outer s H vs Q E hr h => ?_)
  · obtain ⟨sc, m, n, F, C, W, ms, rfl, _⟩ := h
    rfl
  · obtain ⟨sc, m, n, F, C, W, ms, rfl, hSc, o, em, hms, l64, q⟩ := h
    refine ⟨_, (pss_cons (ps_asg (pv 0) (pg_tup (by rfl) (pgs_cons (pg_name (i := 2) sc_is_safe.nd rfl (.inr rfl)) (pgs_cons (pg_name (i := 3) sc_is_safe.nd rfl (.inl rfl)) (pgs_cons (pg_name (i := 4) sc_is_safe.nd rfl (.inl rfl)) pgs_nil)))))
      (pss_cons (ps_for PassesOwn.never rfl (pi_tup (pv 4)) (pg_tup (by rfl) (pgs_cons (pg_name (i := 5) sc_is_safe.nd rfl (.inr rfl)) (pgs_cons (pg_name (i := 6) sc_is_safe.nd rfl (.inl rfl)) pgs_nil))) (pss_one (ps_for PassesOwn.never rfl (pi_list (pe_callB (cr_sortedSet (by rfl)) (by rfl) T.n_sorted (by decide +kernel) (pa_cons (pe_scI (own := [("k", 11)]) (g := gName 11) (tt := tYes) rfl sc_is_safe.nd (pi_tup (pv 1)) (blkOk_by (own := [("k", 11)]) (N := ["scene", "members", "fillings", "counts", "watches", "groups", "guards", "group", "together", "secret", "least", "k"]) (sc := (defScope s_is_safe)) (by decide +kernel)) (fun _ _ _ _ _ => (pg_name (i := 11) sc_is_safe.nd rfl (.inl rfl))) (fun _ _ _ _ _ => pts_nil) (fun _ _ _ _ _ => (pe_ix (r := rIxT K) ix_tup (pv 5) (pv 11) (fun _ _ => rfl)))) pa_nil))) (pg_name (i := 7) sc_is_safe.nd rfl (.inr rfl)) (pss_cons (ps_setLc (i := 8) (own := [("k", 11)]) (g := gName 11) rfl sc_is_safe.nd rfl rfl (sw_true rfl rfl rfl (by decide +kernel)) (pi_tup (pv 1)) (blkOk_by (own := [("k", 11)]) (N := ["scene", "members", "fillings", "counts", "watches", "groups", "guards", "group", "together", "secret", "least", "k"]) (sc := (defScope s_is_safe)) (by decide +kernel)) (fun _ _ _ _ _ => (pg_name (i := 11) sc_is_safe.nd rfl (.inl rfl))) (fun _ _ _ _ _ => (pts_one (pt_cmpR op_eq (pe_ix (r := rIxT K) ix_tup (pv 5) (pv 11) (fun _ _ => rfl)) (pv 7) (nomark _)))) (fun _ _ _ _ _ => (pe_ix (r := rIxT K) ix_tup (pv 2) (pv 11) (fun _ _ => rfl))))
      (pss_one (ps_for PassesOwn.never rfl (pi_tup (pe_ix ix_tup (pv 6) (pv 7) (fun _ _ => rfl))) (pg_tup (by rfl) (pgs_cons (pg_name (i := 9) sc_is_safe.nd rfl (.inl rfl)) (pgs_cons (pg_name (i := 10) sc_is_safe.nd rfl (.inl rfl)) pgs_nil))) (pss_one (ps_if (pt_cmpR op_lt (pe_call G_ways_in (hr.mono (by decide)) (by rfl) T.D_ways_in.G T.D_ways_in.F.kp T.D_ways_in.B .nil pass0 (pa_cons (pv 3) (pa_cons (pv 8) (pa_cons (pv 9) pa_nil)))) (pv 10) (nomark _)) (pss_one (ps_ret pe_bl)) pss_nil))))))))
      (pss_one (ps_ret pe_bl)))), ?_⟩
    obtain ⟨a, f, c, wv, rfl, ea, hF, hC, wa, wus, rfl, ewa, lW⟩ := hSc
    obtain ⟨fa, fus, rfl, efa, lF⟩ := id hF
    refine ⟨_, rfl, a, _, rfl, SqT.of ea, rfl, _, _, rfl, _, _, rfl, _, _, rfl, rfl, ?_⟩
    refine ⟨_, rfl, wa, rfl, ⟨_, SqT.of ewa⟩, ?_⟩
    refine for_it (walk_tup (K := K) (a := wa) (xs := wus)) (fun i σ' H' => ∃ (x5 x6 x7 x8 x9 x10 x11 : Option V), σ' = [some (.ref a), some (.ref m), some (.ref fa), some c, some (.ref wa), x5, x6, x7, x8, x9, x10, x11] ∧ Same H H' ∧ (W.take i).any (fun wt => unsW F C ms wt) = false) ⟨none, none, none, none, none, none, none, rfl, Same.refl H, rfl⟩ ?_ ?_ ?_
    · rintro i σ' H' _ ⟨_, _, _, _, _, _, _, _, k, _⟩
      exact SqT.of (k _ _ ewa)
    · rintro i x σ' H1 H2 hi ⟨x5, x6, x7, x8, x9, x10, x11, rfl, k, hn⟩ ⟨rfl, hx⟩
      obtain ⟨wt, ewt, b, gv, dv, rfl, eb, ⟨ga, rfl, ega⟩, da, dus, rfl, eda, lD⟩ := lW.at hx
      have wo := o.wk wt (List.mem_of_getElem? ewt)
      refine ⟨b, _, rfl, SqT.of (k _ _ eb), rfl, _, _, rfl, _, _, rfl, rfl, ?_⟩
      refine ⟨_, rfl, m, rfl, ⟨_, SqT.of (k _ _ em)⟩, fun D nD => ?_⟩
      have sD : Same H2 (upd H2 D (SetO w D (fun _ => false) 0)) := same_upd (Same.refl H2) nD
      refine scI_it (ww := w) (walk_tup (K := K) (a := m) (xs := ms.map nV)) (fun i H' => ∃ (S : Int → Bool) (n : Nat), H' D = some (SetO w D S n) ∧ n ≤ i ∧ (∀ x : Int, S x = true ↔ ∃ k : Nat, x = (k : Int) ∧ k ∈ (ms.take i).map (wt.1.getD · 0)) ∧ Same H2 H') ⟨_, 0, upd_same, Nat.le_refl _, fun x => ⟨(fun z => by cases z), fun ⟨k, _, z⟩ => by cases z⟩, sD⟩ ?_ ?_ ?_
      · rintro i H' _ ⟨S, n, _, _, _, k2⟩
        exact SqT.of (k2 _ _ (k _ _ em))
      · rintro j x H3 H4 hj ⟨S, n', eD, ln, hS, k2⟩ ⟨rfl, hx⟩
        rw [List.length_map] at hj
        rw [nat_at hj] at hx
        have hx := Option.some.inj hx
        subst hx
        have hk : ms.getD j 0 < n := hms _ (getD_mem hj)
        refine ⟨rfl, ?_⟩
        refine ⟨_, rfl, _, rfl, ga, _, _, _, rfl, rfl, SqT.of (k2 _ _ (k _ _ ega)), atI_nat (nat_at (by rw [wo.gl]; exact hk)), ?_⟩
        refine ⟨_, S, n', rfl, eD, Nat.lt_of_lt_of_le (show n' + 1 < 66 by omega) (by decide), _, _, upd_same, ?_, fun x => ?_, same_mut k2 nD⟩
        · split <;> omega
        · rw [Bool.or_eq_true, hS, decide_eq_true_eq, take_oneD 0 hj, List.map_append]
          constructor
          · rintro (⟨k, e, h⟩ | e)
            · exact ⟨k, e, List.mem_append_left _ h⟩
            · exact ⟨_, e, List.mem_append_right _ (List.mem_singleton.mpr rfl)⟩
          · rintro ⟨k, e, h⟩
            rcases List.mem_append.mp h with h | h
            · exact .inl ⟨k, e, h⟩
            · exact .inr (by rw [e, List.mem_singleton.mp h])
      · rintro H3 ⟨S, n', eD, ln, hS, k2⟩
        rw [List.length_map] at ln
        rw [List.length_map, List.take_length] at hS
        refine ⟨D, S, n', rfl, eD, by omega, fun ns p pw hm el np => ?_⟩
        obtain ⟨gs, rfl⟩ := int_nats fun x hx => by
          obtain ⟨k, e, _⟩ := (hS x).mp ((hm x).mp hx)
          exact ⟨k, e⟩
        have hmm : ∀ x, x ∈ gs ↔ ∃ k, k ∈ ms ∧ wt.1.getD k 0 = x := fun x => by
          constructor
          · intro h
            obtain ⟨k, e, h2⟩ := (hS _).mp ((hm (x : Int)).mp (List.mem_map.mpr ⟨x, h, rfl⟩))
            obtain ⟨y, h3, e2⟩ := List.mem_map.mp h2
            exact ⟨y, h3, by omega⟩
          · rintro ⟨k, hk, e⟩
            obtain ⟨y, h2, e⟩ := List.mem_map.mp ((hm (x : Int)).mpr ((hS _).mpr ⟨x, rfl, List.mem_map.mpr ⟨k, hk, e⟩⟩))
            have : y = x := by omega
            rw [← this]; exact h2
        rw [map_Vint]
        have k3 := k.trans (same_upd (o := .lst (gs.map nV)) k2 np)
        have ep : upd H3 p (.lst (gs.map nV)) p = some (.lst (gs.map nV)) := upd_same
        generalize upd H3 p (.lst (gs.map nV)) = H4 at k3 ep
        refine ⟨p, rfl, ⟨_, SqL.of ep⟩, ?_⟩
        refine for_it (walk_list (K := K) (a := p) (xs := gs.map nV)) (fun i σ' H' => ∃ (x7 x8 x9 x10 x11 : Option V), σ' = [some (.ref a), some (.ref m), some (.ref fa), some c, some (.ref wa), some (.ref ga), some (.ref da), x7, x8, x9, x10, x11] ∧ Same H4 H' ∧ ∀ g ∈ gs.take i, badG F C ms wt g = false) ⟨_, _, _, _, _, rfl, Same.refl H4, fun _ h => by cases h⟩ ?_ ?_ ?_
        · rintro i σ' H' _ ⟨_, _, _, _, _, _, k4, _⟩
          exact SqL.of (k4 _ _ ep)
        · rintro j x σ' H5 H6 hj ⟨x7, x8, x9, x10, x11, rfl, k4, hb⟩ ⟨rfl, hx⟩
          rw [List.length_map] at hj
          rw [nat_at hj] at hx
          have hx := Option.some.inj hx
          subst hx
          obtain ⟨k0, hk0, ek0⟩ := (hmm (gs.getD j 0)).mp (getD_mem hj)
          have hg : gs.getD j 0 < wt.2.length := by rw [← ek0]; exact wo.gb _ (hms _ hk0)
          have ej := take_oneD 0 hj
          generalize gs.getD j 0 = g at ek0 hg ej
          have k5 := k3.trans k4
          refine ⟨_, rfl, m, rfl, ⟨_, SqT.of (k5 _ _ em)⟩, fun D2 nD2 => ?_⟩
          have nD2H : H D2 = none := by
            cases e : H D2 with
            | none => rfl
            | some o => rw [k5 _ _ e] at nD2; cases nD2
          refine lc_it (walk_tup (K := K) (a := m) (xs := ms.map nV)) (fun i H' => ∃ us, H' D2 = some (.lst us) ∧ LV (NsR H) us (insL F wt.1 (ms.take i) g) ∧ Same H6 H') ⟨[], upd_same, LV.nil, same_upd (Same.refl H6) nD2⟩ ?_ ?_ ?_
          · rintro i H' _ ⟨_, _, _, k6⟩
            exact SqT.of (k6 _ _ (k5 _ _ em))
          · rintro i x H7 H8 hi ⟨us, eD2, lv, k6⟩ ⟨rfl, hx⟩
            rw [List.length_map] at hi
            rw [nat_at hi] at hx
            have hx := Option.some.inj hx
            subst hx
            have hk : ms.getD i 0 < n := hms _ (getD_mem hi)
            obtain ⟨fx, efx, hfx⟩ := lF.get0 (i := ms.getD i 0) [] (by rw [o.fl]; exact hk)
            have lu := lv.1
            have li := insL_len F wt.1 (ms.take i) g
            rw [List.length_take] at li
            refine ⟨rfl, ?_⟩
            refine ⟨_, rfl, _, rfl, ga, _, _, _, rfl, rfl, SqT.of (k6 _ _ (k5 _ _ ega)), atI_nat (nat_at (by rw [wo.gl]; exact hk)), _, rfl, rfl, ?_⟩
            by_cases hg2 : wt.1.getD (ms.getD i 0) 0 = g
            · refine ⟨true, bTr (congrArg nV hg2), ?_⟩
              refine ⟨_, rfl, _, rfl, fa, _, _, _, rfl, rfl, SqT.of (k6 _ _ (k5 _ _ efa)), atI_nat efx, ?_⟩
              refine ⟨us, eD2, szN (by omega), us ++ [fx], upd_same, ?_, same_mut k6 (by
                cases e : H6 D2 with
                | none => rfl
                | some o => rw [e] at nD2; cases nD2)⟩
              rw [take_oneD 0 hi, insL_snoc, if_pos hg2]
              exact lv.snoc hfx
            · refine ⟨false, bFa (fun z => hg2 (nV_inj z)), us, eD2, ?_, k6⟩
              rw [take_oneD 0 hi, insL_snoc, if_neg hg2]
              exact lv
          · rintro H7 ⟨us, eD2, lv, k6⟩
            rw [List.length_map, List.take_length] at lv
            have k7 := k5.trans k6
            obtain ⟨rv, erv, ra, rus, rfl, era, lR⟩ := lD.get0 [] hg
            have ro := wo.rl _ (getD_mem (d := []) hg)
            have eb0 : badG F C ms wt g = (wt.2.getD g []).any fun p => decide (waysL C (insL F wt.1 ms g) p.1 < p.2) := by
              unfold badG
              rw [List.any_eq_true.mpr ⟨k0, hk0, decide_eq_true ek0⟩, Bool.true_and]
            generalize wt.2.getD g [] = row at lR ro eb0
            refine ⟨_, rfl, _, rfl, da, _, _, _, rfl, rfl, SqT.of (k7 _ _ eda), atI_nat erv, ra, rfl, ⟨_, SqT.of (k7 _ _ era)⟩, ?_⟩
            refine for_it (walk_tup (K := K) (a := ra) (xs := rus)) (fun i σ' H' => ∃ (x9 x10 : Option V), σ' = [some (.ref a), some (.ref m), some (.ref fa), some c, some (.ref wa), some (.ref ga), some (.ref da), some (nV g), some (.ref D2), x9, x10, x11] ∧ Same H7 H' ∧ (row.take i).any (fun p => decide (waysL C (insL F wt.1 ms g) p.1 < p.2)) = false) ⟨_, _, rfl, Same.refl _, rfl⟩ ?_ ?_ ?_
            · rintro i σ' H' _ ⟨_, _, _, k8, _⟩
              exact SqT.of (k8 _ _ (k7 _ _ era))
            · rintro i x σ' H8 H9 hi ⟨x9, x10, rfl, k8, hr0⟩ ⟨rfl, hx⟩
              obtain ⟨pr, epr, pa, _, _, rfl, epa, rfl, rfl⟩ := lR.at hx
              have k9 := k7.trans k8
              refine ⟨pa, _, rfl, SqT.of (k9 _ _ epa), rfl, _, _, rfl, _, _, rfl, rfl, ?_⟩
              have ps := ro.2 pr (List.mem_of_getElem? epr)
              have lF2 := insL_len F wt.1 ms g
              refine ⟨_, rfl, _, rfl, _, rfl, c, D2, us, C, _, pr.1, rfl, (TupR.mn NsR.mn).to hC (TK.same k9), k8 _ _ eD2, lv.mono fun _ _ z => NsR.mn.to z (TK.same k9), ps, insL_ok o hms ps, by omega, fun H10 k10 => ?_⟩
              refine ⟨_, rfl, _, _, rfl, rfl, _, rfl, ite2 (fun e => ?_) (fun e => ?_)⟩
              · have e := of_decide_eq_true e
                have hu : unsB F C W ms = true := by
                  refine List.any_eq_true.mpr ⟨wt, List.mem_of_getElem? ewt, List.any_eq_true.mpr ⟨g, List.mem_range.mpr hg, ?_⟩⟩
                  rw [eb0]
                  exact List.any_eq_true.mpr ⟨pr, List.mem_of_getElem? epr, decide_eq_true (by omega)⟩
                have q := q H10 (k9.trans k10)
                rw [hu] at q
                exact q
              · refine ⟨_, _, rfl, k8.trans k10, ?_⟩
                have e : ¬ waysL C (insL F wt.1 ms g) pr.1 < pr.2 := fun z => e (decide_eq_true (by omega))
                rw [take_one epr, List.any_append, hr0, Bool.false_or, List.any_cons, decide_eq_false e]; rfl
            · rintro σ' H8 ⟨x9, x10, rfl, k8, hr0⟩
              rw [List.take_of_length_le (by rw [← lR.1]; exact Nat.le_refl _)] at hr0
              refine ⟨_, _, _, _, _, rfl, (k4.trans k6).trans k8, fun g' hg' => ?_⟩
              rw [ej] at hg'
              rcases List.mem_append.mp hg' with h | h
              · exact hb g' h
              · rw [List.mem_singleton.mp h, eb0]; exact hr0
        · rintro σ' H5 ⟨x7, x8, x9, x10, x11, rfl, k4, hb⟩
          rw [List.length_map, List.take_length] at hb
          refine ⟨_, _, _, _, _, _, _, rfl, k3.trans k4, ?_⟩
          rw [take_one ewt, List.any_append, hn, Bool.false_or, List.any_cons, List.any_nil, Bool.or_false]
          refine List.any_eq_false.mpr fun g hg => ?_
          by_cases hx : g ∈ gs
          · rw [hb g hx]; decide
          · have : badG F C ms wt g = false := by
              unfold badG
              rw [List.any_eq_false.mpr fun k hk z => hx ((hmm g).mpr ⟨k, hk, of_decide_eq_true z⟩)]; rfl
            rw [this]; decide
    · rintro σ' H1 ⟨x5, x6, x7, x8, x9, x10, x11, rfl, k, hn⟩
      rw [List.take_of_length_le (by rw [← lW.1]; exact Nat.le_refl _)] at hn
      have e : unsB F C W ms = false := hn
      have q := q H1 k
      rw [e] at q
      exact q
end
end Vf

set_option Elab.async false
set_option linter.all false
set_option maxRecDepth 100000
set_option maxHeartbeats 4000000
namespace Vf
open PySem PySem.Spec PyProof.Rows L2 TL
/-- the scope of a comprehension within one whose def has the scope d -/
def rel2 (inner d : Scope) : Scope := { inner with
  names := inner.names.map fun nk =>
    match nk with
    | (y, kk) => if (kk == .free && d.kind == .function && d.names.lookup y == some .cell) then (y, .cell) else (y, kk) }
def rTupleOf (K : PySem.W.Frag) : List V → Hp → VK → Prop := fun args H Q =>
  ∃ p ys, args = [V.ref p] ∧ ((SqL K H p ys ∧ ∀ l : Addr, H l = none → Q (.ref l) (upd H l (.tup ys))) ∨
    (SqT K H p ys ∧ Q (.ref p) H))
def rListOf (K : PySem.W.Frag) : List V → Hp → VK → Prop := fun args H Q =>
  ∃ p ys, args = [V.ref p] ∧ (SqL K H p ys ∨ SqT K H p ys) ∧
    ∀ l : Addr, H l = none → Q (.ref l) (upd H l (.lst ys))
def tTru (K : PySem.W.Frag) (ta : TE) : TT := fun σ H Q => ta σ H fun x H' => ∃ k, TruV K x H' k ∧ Q k H'
theorem pt_tru {X : Cx} {K : PySem.W.Frag} {a : Expr} {ta : TE} (hK : X.K = K) (ha : PE X a ta) (he : ∀ whole, isTrue a X.env whole = (do let v ← whole; standAt a.pos; holding [v] (truthy v))) : PT X a (tTru K ta) := by
  subst hK
  exact pt_truth ha he
theorem pi_or {X : Cx} {tg iter : Expr} {wa wb : TI} (ha : PI X tg iter wa) (hb : PI X tg iter wb) : PI X tg iter (fun σ H R => wa σ H R ∨ wb σ H R) :=
  ⟨fun pins s σ H R I h => h.elim (ha.run pins s σ H R I) (hb.run pins s σ H R I)⟩
theorem hu65 {k : Nat} {A : Around} (r : Room k A) : A.units + 65 < cLine := by have := r.un; omega
/-! ### tuples of numbers as data -/
def dN (xs : List Nat) : PyData := .tuple (xs.map fun x : Nat => .int (x : Int))
theorem dp_nats {K : PySem.W.Frag} {H : Hp} : ∀ xs : List Nat, DpAll K H (xs.map nV) (xs.map fun x : Nat => .int (x : Int))
  | [] => .nil
  | x :: xs => .cons (.int (x : Int)) (dp_nats xs)
theorem dN_dp {K : PySem.W.Frag} {H : Hp} {v : V} {xs : List Nat} (h : NsR H v xs) : Dp K H v (dN xs) := by
  obtain ⟨a, rfl, e⟩ := h
  exact .tup (SqT.of e) (dp_nats xs)
theorem dNs_dp {K : PySem.W.Frag} {H : Hp} : ∀ {us : List V} {F : List (List Nat)}, LV (NsR H) us F → DpAll K H us (F.map dN)
  | [], [], _ => .nil
  | [], _ :: _, h => by have := h.1; cases this
  | _ :: _, [], h => by have := h.1; cases this
  | u :: us, f :: F, h => by
    obtain ⟨x, e, r⟩ := h.2 0 f rfl
    have e := Option.some.inj e
    subst e
    exact .cons (dN_dp r) (dNs_dp ⟨Nat.succ.inj h.1, fun i r e => h.2 (i + 1) r e⟩)
theorem nats_lay : ∀ xs : List Nat, PyData.canLayAll0 (xs.map fun x : Nat => .int (x : Int)) = true
  | [] => by simp [PyData.canLayAll0]
  | x :: xs => by simp [PyData.canLayAll0, PyData.canLay0, nats_lay xs]
theorem nats_depth : ∀ xs : List Nat, PyData.depthAll (xs.map fun x : Nat => .int (x : Int)) = 0
  | [] => by simp [PyData.depthAll]
  | x :: xs => by simp [PyData.depthAll, PyData.depth, nats_depth xs]
theorem dN_lay (xs : List Nat) : (dN xs).canLay0 = true := by
  unfold dN; simp only [PyData.canLay0]; exact nats_lay xs
theorem dN_depth (xs : List Nat) : (dN xs).depth = 1 := by
  unfold dN; simp only [PyData.depth, nats_depth]
theorem dNs_lay : ∀ F : List (List Nat), PyData.canLayAll0 (F.map dN) = true
  | [] => by simp [PyData.canLayAll0]
  | x :: xs => by simp [PyData.canLayAll0, dN_lay x, dNs_lay xs]
theorem dNs_depth : ∀ F : List (List Nat), PyData.depthAll (F.map dN) ≤ 1
  | [] => by simp [PyData.depthAll]
  | x :: xs => by
    have h1 := dNs_depth xs
    have h2 := dN_depth x
    simp only [List.map_cons, PyData.depthAll]
    omega
theorem dN_shaped (xs : List Nat) : SeqAt.shaped (dN xs) = true := Bool.and_eq_true_iff.mpr ⟨dN_lay xs, decide_eq_true (by rw [dN_depth]; decide)⟩
theorem dNs_shaped (F : List (List Nat)) : SeqAt.shaped (.list (F.map dN)) = true :=
  Bool.and_eq_true_iff.mpr ⟨by simp only [PyData.canLay0]; exact dNs_lay F, decide_eq_true (by simp only [PyData.depth]; have := dNs_depth F; omega)⟩
theorem nats_eqv : ∀ xs ys : List Nat, PyData.eqvAll (xs.map fun x : Nat => .int (x : Int)) (ys.map fun x : Nat => .int (x : Int)) = decide (xs = ys)
  | [], [] => by simp [PyData.eqvAll]
  | [], _ :: _ => by simp [PyData.eqvAll]
  | _ :: _, [] => by simp [PyData.eqvAll]
  | x :: xs, y :: ys => by
    simp only [List.map_cons, PyData.eqvAll, PyData.eqv, nats_eqv xs ys]
    by_cases h1 : x = y
    · subst h1
      by_cases h2 : xs = ys
      · subst h2; simp
      · simp [h2]
    · have : ¬ (x : Int) = (y : Int) := by omega
      simp [h1, this]
theorem dN_eqv (xs ys : List Nat) : PyData.eqv (dN xs) (dN ys) = decide (xs = ys) := by
  unfold dN; simp only [PyData.eqv]; exact nats_eqv xs ys
theorem dNs_any (F : List (List Nat)) (f : List Nat) : ((F.map dN).any fun z => PyData.eqv z (dN f)) = decide (f ∈ F) := by
  rw [List.any_map]
  by_cases h : f ∈ F
  · rw [decide_eq_true h]
    exact List.any_eq_true.mpr ⟨f, h, by show PyData.eqv (dN f) (dN f) = true; rw [dN_eqv]; exact decide_eq_true rfl⟩
  · rw [decide_eq_false h]
    refine List.any_eq_false.mpr fun y hy => ?_
    show ¬ PyData.eqv (dN y) (dN f) = true
    rw [dN_eqv]
    exact fun z => h (of_decide_eq_true z ▸ hy)
/-- sorted of a list of tuples of equally many small ints -/
def rSortX (K : PySem.W.Frag) : List V → Hp → VK → Prop := fun vs H Q => ∃ (d : Nat) (B : Int), 1 ≤ d ∧ rSortU K d B vs H Q
theorem cr_sortX {X : Cx} : CallR X (.builtin "sorted") (rSortX X.K) := by
  intro pins s σ H vs us Q I r h
  obtain ⟨d, B, hd, h⟩ := h
  exact cr_sortT hd pins s σ H vs us Q I r h
theorem LV.perm {α : Type} {R : V → α → Prop} {us ws : List V} (hp : us.Perm ws) : ∀ {rs : List α}, LV R ws rs → ∃ ss, LV R us ss ∧ ss.Perm rs := by
  induction hp with
  | nil =>
    intro rs h
    have : rs = [] := List.length_eq_zero_iff.mp h.1.symm
    subst this
    exact ⟨[], LV.nil, .nil⟩
  | @cons x l₁ l₂ _ ih =>
    intro rs h
    cases rs with
    | nil => have := h.1; cases this
    | cons r rs =>
      obtain ⟨y, e, hr⟩ := h.2 0 r rfl
      have e := Option.some.inj e
      subst e
      obtain ⟨ss, h1, h2⟩ := ih (rs := rs) ⟨Nat.succ.inj h.1, fun i r e => h.2 (i + 1) r e⟩
      refine ⟨r :: ss, ⟨by rw [List.length_cons, List.length_cons, h1.1], fun i q e => ?_⟩, h2.cons r⟩
      cases i with
      | zero => exact ⟨_, rfl, (Option.some.inj e) ▸ hr⟩
      | succ i => exact h1.2 i q e
  | swap x y l =>
    intro rs h
    match rs, h with
    | [], h => have := h.1; cases this
    | [_], h => have := h.1; cases this
    | r :: s :: rs, h =>
      obtain ⟨y1, e, hr⟩ := h.2 0 r rfl
      have e := Option.some.inj e
      subst e
      obtain ⟨y2, e, hs⟩ := h.2 1 s rfl
      have e := Option.some.inj e
      subst e
      refine ⟨s :: r :: rs, ⟨h.1, fun i q e => ?_⟩, .swap _ _ _⟩
      match i, e with
      | 0, e => exact ⟨_, rfl, (Option.some.inj e) ▸ hs⟩
      | 1, e => exact ⟨_, rfl, (Option.some.inj e) ▸ hr⟩
      | i + 2, e => exact h.2 (i + 2) q e
  | trans _ _ a b =>
    intro rs h
    obtain ⟨ss, h1, p1⟩ := b h
    obtain ⟨ts, h2, p2⟩ := a h1
    exact ⟨ts, h2, p2.trans p1⟩
theorem fdiv_nV (a b : Nat) : V.int ((a : Int).fdiv (b : Int)) = nV (a / b) := by
  rw [Int.fdiv_eq_ediv_of_nonneg _ (by omega)]; rfl
theorem fmod_nV (a b : Nat) : V.int ((a : Int).fmod (b : Int)) = nV (a % b) := by
  rw [Int.fmod_eq_emod_of_nonneg _ (by omega)]; rfl
theorem low_snoc {os S : List Nat} {j g : Nat} (lo : os.length = j) (ho : ∀ s, s < j → os.getD s 0 < S.getD s 0) (hg : g < S.getD j 0) : ∀ s, s < j + 1 → (os ++ [g]).getD s 0 < S.getD s 0 := fun s hs => by
  rcases Nat.lt_or_ge s j with h | h
  · rw [List.getD_eq_getElem?_getD, List.getElem?_append_left (by omega), ← List.getD_eq_getElem?_getD]; exact ho s h
  · have : s = j := by omega
    subst this
    rw [List.getD_eq_getElem?_getD, List.getElem?_append_right (by omega), lo, Nat.sub_self]; exact hg
theorem PE.to {X : Cx} {e : Expr} {t t' : TE} (h : PE X e t) (i : ∀ σ H Q, t' σ H Q → t σ H Q) : PE X e t' := ⟨fun pins s σ H Q I hq => h.run pins s σ H Q I (i σ H Q hq)⟩
theorem rgV_nats (n : Nat) : rgV 0 (n : Int) = (List.range n).map nV := by
  unfold rgV
  rw [show ((n : Int) - 0).toNat = n by omega]
  refine List.map_congr_left fun i _ => ?_
  rw [Int.zero_add]; rfl
theorem toNat_k {n : Nat} : ((n : Nat) : Int).toNat = n := Int.toNat_natCast n
theorem int0 (i : Nat) : V.int (0 + (i : Int)) = nV i := by rw [Int.zero_add]; rfl
theorem ixN_last {n : Nat} (h : 0 < n) : ixN n (-1) = some (n - 1) := by
  unfold ixN
  rw [if_neg (by decide), if_pos (by omega)]
  congr 1
  omega
theorem atI_l {α : Type} {xs : List α} {v : α} (h : xs[xs.length - 1]? = some v) : atI xs (-1) = some v := by
  have h0 : 0 < xs.length := by
    have := (List.getElem?_eq_some_iff.mp h).1
    omega
  unfold atI
  rw [ixN_last h0]
  exact h
def isN (lo hi : Nat) : V → Bool
  | .int g => decide ((lo : Int) ≤ g) && decide (g ≤ (hi : Int))
  | _ => false
theorem isN_of {lo hi : Nat} {v : V} (h : isN lo hi v = true) : ∃ m : Nat, v = nV m ∧ lo ≤ m ∧ m ≤ hi := by
  cases v with
  | int g =>
    have ⟨a, b⟩ := Bool.and_eq_true_iff.mp h
    have a := of_decide_eq_true a
    have b := of_decide_eq_true b
    exact ⟨g.toNat, by unfold nV; rw [Int.toNat_of_nonneg (by omega)], by omega, by omega⟩
  | _ => cases h
theorem none_kp {d : Addr} {H H' : Hp} {b : Addr} (k : Kp d H H') (n : b ≠ d) (h : H' b = none) : H b = none := by
  cases e : H b with
  | none => rfl
  | some o => rw [k _ _ n e] at h; cases h
theorem none_same {H H' : Hp} {b : Addr} (k : Same H H') (h : H' b = none) : H b = none := by
  cases e : H b with
  | none => rfl
  | some o => rw [k _ _ e] at h; cases h
theorem draw_nt {m r : Int} (h : 0 < m) (e1 : m < 2 → r = 0) (e2 : 2 ≤ m → 0 ≤ r ∧ r < m) : ∃ j : Nat, r = (j : Int) ∧ (j : Int) < m := by
  by_cases c : m < 2
  · exact ⟨0, e1 c, by omega⟩
  · have := e2 (by omega)
    exact ⟨r.toNat, by omega, by omega⟩
end Vf

set_option Elab.async false
set_option linter.all false
set_option maxRecDepth 100000
set_option maxHeartbeats 4000000
namespace Vf
open PySem PySem.Spec PyProof.Rows L2 TL
/-! ### data without lists, in the heap -/
mutual
inductive Td (H : Hp) : V → PyData → Prop
  | non : Td H .non .none
  | int (i : Int) : Td H (.int i) (.int i)
  | str (z : Str) : Td H (.str z) (.str z)
  | tup {a : Addr} {xs : List V} {ds : List PyData} : H a = some (.tup xs) → TdAll H xs ds → Td H (.ref a) (.tuple ds)
inductive TdAll (H : Hp) : List V → List PyData → Prop
  | nil : TdAll H [] []
  | cons {v : V} {vs : List V} {d : PyData} {ds : List PyData} : Td H v d → TdAll H vs ds → TdAll H (v :: vs) (d :: ds)
end
mutual
theorem Td.to {H H' : Hp} (k : TK H H') : ∀ {v : V} {d : PyData}, Td H v d → Td H' v d
  | _, _, .non => .non
  | _, _, .int i => .int i
  | _, _, .str z => .str z
  | _, _, .tup e h => .tup (k _ _ e) (TdAll.to k h)
theorem TdAll.to {H H' : Hp} (k : TK H H') : ∀ {vs : List V} {ds : List PyData}, TdAll H vs ds → TdAll H' vs ds
  | _, _, .nil => .nil
  | _, _, .cons h t => .cons (Td.to k h) (TdAll.to k t)
end
mutual
theorem Td.dp {K : PySem.W.Frag} {H : Hp} : ∀ {v : V} {d : PyData}, Td H v d → Dp K H v d
  | _, _, .non => .non
  | _, _, .int i => .int i
  | _, _, .str z => .str z
  | _, _, .tup e h => .tup (SqT.of e) (TdAll.dp h)
theorem TdAll.dp {K : PySem.W.Frag} {H : Hp} : ∀ {vs : List V} {ds : List PyData}, TdAll H vs ds → DpAll K H vs ds
  | _, _, .nil => .nil
  | _, _, .cons h t => .cons (Td.dp h) (TdAll.dp t)
end
theorem Td.mn : Mn Td := ⟨fun h k => Td.to k h⟩
def okD (d : PyData) : Prop := d.canLay0 = true ∧ d.depth ≤ 2
theorem okD.sh {d : PyData} (h : okD d) : SeqAt.shaped d = true := Bool.and_eq_true_iff.mpr ⟨h.1, decide_eq_true (by have := h.2; omega)⟩
theorem okDs_lay : ∀ {ds : List PyData}, (∀ d ∈ ds, okD d) → PyData.canLayAll0 ds = true ∧ PyData.depthAll ds ≤ 2
  | [], _ => by simp [PyData.canLayAll0, PyData.depthAll]
  | d :: ds, h => by
    have ⟨a, b⟩ := h d List.mem_cons_self
    have ⟨e, f⟩ := okDs_lay (ds := ds) fun x hx => h x (List.mem_cons_of_mem _ hx)
    simp only [PyData.canLayAll0, PyData.depthAll, a, e]
    exact ⟨rfl, by omega⟩
theorem okDs_sh {ds : List PyData} (h : ∀ d ∈ ds, okD d) : SeqAt.shaped (.list ds) = true := by
  have ⟨a, b⟩ := okDs_lay h
  exact Bool.and_eq_true_iff.mpr ⟨by simp only [PyData.canLay0]; exact a, decide_eq_true (by simp only [PyData.depth]; omega)⟩
theorem TdAll.of {H : Hp} : ∀ {us : List V} {ds : List PyData}, LV (Td H) us ds → TdAll H us ds
  | [], [], _ => .nil
  | [], _ :: _, h => by have := h.1; cases this
  | _ :: _, [], h => by have := h.1; cases this
  | u :: us, d :: ds, h => by
    obtain ⟨x, e, r⟩ := h.2 0 d rfl
    have e := Option.some.inj e
    subst e
    exact .cons r (TdAll.of ⟨Nat.succ.inj h.1, fun i r e => h.2 (i + 1) r e⟩)
theorem TdAll.lv {H : Hp} : ∀ {us : List V} {ds : List PyData}, TdAll H us ds → LV (Td H) us ds
  | _, _, .nil => LV.nil
  | _, _, .cons h t => by
    have ih := TdAll.lv t
    refine ⟨by rw [List.length_cons, List.length_cons, ih.1], fun i r e => ?_⟩
    cases i with
    | zero => exact ⟨_, rfl, (Option.some.inj e) ▸ h⟩
    | succ i => exact ih.2 i r e
abbrev VwR := TupR (TupR Td)
theorem VwR.mn : Mn VwR := TupR.mn (TupR.mn Td.mn)
structure VwOk (n L : Nat) (D : List (List PyData)) : Prop where
  dl : D.length = n
  rl : ∀ r ∈ D, r.length = L ∧ ∀ d ∈ r, okD d
def dat (D : List (List PyData)) (k lv : Nat) : PyData := (D.getD k []).getD lv .none
theorem VwOk.ok {n L : Nat} {D : List (List PyData)} (o : VwOk n L D) {k lv : Nat} (hk : k < n) (hl : lv < L) : okD (dat D k lv) := by
  have m := getD_mem (xs := D) (i := k) (d := []) (by rw [o.dl]; exact hk)
  have ⟨a, b⟩ := o.rl _ m
  exact b _ (getD_mem (by omega))
/-- an item of the views -/
theorem VwR.get {n L : Nat} {D : List (List PyData)} {H : Hp} {v : V} (h : VwR H v D) (o : VwOk n L D) : ∃ va vus, v = .ref va ∧ H va = some (.tup vus) ∧ vus.length = n ∧
    ∀ k, k < n → ∃ ra rus, vus[k]? = some (.ref ra) ∧ H ra = some (.tup rus) ∧ rus.length = L ∧ ∀ lv, lv < L → ∃ x, rus[lv]? = some x ∧ Td H x (dat D k lv) := by
  obtain ⟨va, vus, rfl, e, lv⟩ := h
  have dl := o.dl
  refine ⟨va, vus, rfl, e, by rw [lv.1, o.dl], fun k hk => ?_⟩
  obtain ⟨x, ex, ra, rus, rfl, er, lr⟩ := lv.get0 (i := k) [] (by omega)
  have ⟨a, b⟩ := o.rl _ (getD_mem (xs := D) (i := k) (d := []) (by omega))
  refine ⟨ra, rus, ex, er, by rw [lr.1, a], fun l hl => ?_⟩
  exact lr.get0 (i := l) .none (by rw [a]; exact hl)
end Vf

set_option Elab.async false
set_option linter.all false
set_option maxRecDepth 100000
set_option maxHeartbeats 4000000
namespace Vf
open PySem PySem.Spec PyProof.Rows L2 TL
theorem range_snoc (n : Nat) : List.range (n + 1) = List.range n ++ [n] := List.range_succ
section
variable {P : Program} {w : World} {K : PySem.W.Frag} {mg : Str → Option Value} {base : Heap}
def spUns : Sp := fun vs H Q _ => ∃ (sc : V) (m : Addr) (n : Nat) (F C : List (List Nat)) (W : List Wt) (ms : List Nat), vs = [sc, .ref m] ∧ ScR H sc F C W ∧ ScOk n F C W ∧ H m = some (.lst (ms.map nV)) ∧ (∀ k ∈ ms, k < n) ∧ ms.length < 64 ∧
  ∀ H' p us, Same H H' → H' p = some (.lst us) → us.length ≤ 1000 → us.isEmpty = (!unsB F C W ms) → Q (.ref p) H'
theorem ok_uns (T : Txt K mg) : FnOk P w K mg base CX0 2 T.a_law_unsafe T.d_law_unsafe ["_law_scene", "_law_members"] spUns := by
  have G_law_ways : FnOk P w K mg base CX0 1 T.a_law_ways T.d_law_ways ["_law_counts", "_law_fillings", "_law_secret"] (spWays K) := ok_ways T
  refine T.D_law_unsafe.F.ok sc_law_unsafe (fun vs H Q E h => ?_) (fun cdv A outer s H vs Q E hr h => ?_)
  · obtain ⟨sc, m, n, F, C, W, ms, rfl, _⟩ := h
    rfl
  · obtain ⟨sc, m, n, F, C, W, ms, rfl, hSc, o, em, hms, l64, q⟩ := h
    refine ⟨_, (pss_cons (ps_set (i := 2) sc_law_unsafe.nd rfl (.inl rfl) (pe_lst pa_nil))
      (pss_cons (ps_for PassesOwn.never rfl (pi_range1 (by rfl) T.n_range (pa_cons (pe_callB call_len_seq (by rfl) T.n_len PySem.boot_len (pa_cons (pe_ix ix_tup (pv 0) pe_int (fun _ _ => rfl)) pa_nil)) pa_nil)) (pg_name (i := 3) sc_law_unsafe.nd rfl (.inr rfl)) (pss_cons (ps_asg (pe_ix ix_tup (pe_ix ix_tup (pv 0) pe_int (fun _ _ => rfl)) (pv 3) (fun _ _ => rfl)) (pg_tup (by rfl) (pgs_cons (pg_name (i := 4) sc_law_unsafe.nd rfl (.inr rfl)) (pgs_cons (pg_name (i := 5) sc_law_unsafe.nd rfl (.inl rfl)) pgs_nil))))
      (pss_one (ps_for PassesOwn.never rfl (pi_range1 (by rfl) T.n_range (pa_cons (pe_callB call_len_seq (by rfl) T.n_len PySem.boot_len (pa_cons (pv 5) pa_nil)) pa_nil)) (pg_name (i := 6) sc_law_unsafe.nd rfl (.inr rfl)) (pss_cons (ps_set (i := 7) sc_law_unsafe.nd rfl (.inr rfl) (pe_lc (own := [("_law_k", 8)]) (g := gName 8) rfl sc_law_unsafe.nd (pi_list (pv 1)) (blkOk_by (own := [("_law_k", 8)]) (N := ["_law_scene", "_law_members", "_law_found", "_law_w", "_law_groups", "_law_guards", "_law_g", "_law_inside", "_law_k", "_law_s", "_law_least"]) (sc := (defScope s_law_unsafe)) (by decide +kernel)) (fun _ _ _ _ _ => (pg_name (i := 8) sc_law_unsafe.nd rfl (.inl rfl))) (fun _ _ _ _ _ => (pts_one (pt_cmpR op_eq (pe_ix (r := rIxT K) ix_tup (pv 4) (pv 8) (fun _ _ => rfl)) (pv 6) (nomark _)))) (fun _ _ _ _ _ => (pe_ix (r := rIxT K) ix_tup (pe_ix (r := rIxT K) ix_tup (pv 0) pe_int (fun _ _ => rfl)) (pv 8) (fun _ _ => rfl)))))
      (pss_one (ps_if (pt_truth (pv 7) (by intro _; rfl)) (pss_one (ps_set (i := 2) sc_law_unsafe.nd rfl (.inl rfl) (pe_op op_cat (pv 2) (pe_lc (own := [("_law_s", 9), ("_law_least", 10)]) (g := (gTup K 2 (gCons (gName 9) (gCons (gName 10) gNil)))) rfl sc_law_unsafe.nd (pi_tup (pe_ix ix_tup (pv 5) (pv 6) (fun _ _ => rfl))) (blkOk_by (own := [("_law_s", 9), ("_law_least", 10)]) (N := ["_law_scene", "_law_members", "_law_found", "_law_w", "_law_groups", "_law_guards", "_law_g", "_law_inside", "_law_k", "_law_s", "_law_least"]) (sc := (defScope s_law_unsafe)) (by decide +kernel)) (fun _ _ _ _ _ => (pg_tup (by rfl) (pgs_cons (pg_name (i := 9) sc_law_unsafe.nd rfl (.inl rfl)) (pgs_cons (pg_name (i := 10) sc_law_unsafe.nd rfl (.inl rfl)) pgs_nil)))) (fun _ _ _ _ _ => (pts_one (pt_cmpR op_lt (pe_call G_law_ways (hr.mono (by decide)) (by rfl) T.D_law_ways.G T.D_law_ways.F.kp T.D_law_ways.B .nil pass0 (pa_cons (pe_ix (r := rIxT K) ix_tup (pv 0) pe_int (fun _ _ => rfl)) (pa_cons (pv 7) (pa_cons (pv 9) pa_nil)))) (pv 10) (nomark _)))) (fun _ _ _ _ _ => (pe_tup (pa_cons (pv 3) (pa_cons (pv 6) (pa_cons (pv 9) pa_nil))))))))) pss_nil)))))))
      (pss_one (ps_ret (pv 2))))), ?_⟩
    obtain ⟨a, f, c, wv, rfl, ea, hF, hC, wa, wus, rfl, ewa, lW⟩ := hSc
    obtain ⟨fa, fus, rfl, efa, lF⟩ := id hF
    have lw := lW.1
    have wl := o.wl
    refine ⟨by show 0 ≤ sizeLine; decide, fun L0 nL0 => ?_⟩
    have k0 := same_upd (o := .lst []) (Same.refl H) nL0
    have eL0 : upd H L0 (.lst []) L0 = some (.lst []) := upd_same
    generalize upd H L0 (.lst []) = H0 at k0 eL0
    refine ⟨_, rfl, a, _, _, _, rfl, rfl, SqT.of (k0 _ _ ea), rfl, _, _, rfl, .inr (SqT.of (k0 _ _ ewa)), (wus.length : Int), rfl, by omega, by omega, ?_⟩
    rw [Int.toNat_natCast]
    refine for_it walk_range (fun i σ' H' => ∃ (L : Addr) (us : List V) (x3 x4 x5 x6 x7 x8 x9 x10 : Option V), σ' = [some (.ref a), some (.ref m), some (.ref L), x3, x4, x5, x6, x7, x8, x9, x10] ∧ Same H H' ∧ H' L = some (.lst us) ∧ us.length ≤ i * 150 ∧ us.isEmpty = !(W.take i).any (fun wt => unsW F C ms wt)) ⟨L0, [], none, none, none, none, none, none, none, none, rfl, k0, eL0, Nat.zero_le _, rfl⟩ (fun _ _ _ _ _ => trivial) ?_ ?_
    · rintro i x σ' H1 H2 hi ⟨L, us, x3, x4, x5, x6, x7, x8, x9, x10, rfl, k, eL, lu, hu⟩ ⟨rfl, hx⟩
      have hx : x = nV i := by rw [hx]; show V.int (0 + (i : Int)) = _; rw [Int.zero_add]; rfl
      subst hx
      obtain ⟨wv, ewv, b, gv, dv, rfl, eb, ⟨ga, rfl, ega⟩, da, dus, rfl, eda, lD⟩ := lW.get (i := i) (by omega)
      have ewt : W[i]? = some W[i] := List.getElem?_eq_getElem (by omega)
      have wo := o.wk W[i] (List.getElem_mem _)
      generalize W[i] = wt at ega lD ewt wo
      refine ⟨_, rfl, a, _, _, _, rfl, rfl, SqT.of (k _ _ ea), rfl, _, rfl, wa, _, _, _, rfl, rfl, SqT.of (k _ _ ewa), atI_nat ewv, b, _, rfl, SqT.of (k _ _ eb), rfl, _, _, rfl, _, _, rfl, rfl, ?_⟩
      have ld := lD.1
      have nl := wo.nl
      refine ⟨_, rfl, _, _, rfl, .inr (SqT.of (k _ _ eda)), (dus.length : Int), rfl, by omega, by omega, ?_⟩
      rw [Int.toNat_natCast]
      refine for_it walk_range (fun j σ' H' => ∃ (L : Addr) (us : List V) (x6 x7 x8 x9 x10 : Option V), σ' = [some (.ref a), some (.ref m), some (.ref L), some (nV i), some (.ref ga), some (.ref da), x6, x7, x8, x9, x10] ∧ Same H H' ∧ H' L = some (.lst us) ∧ us.length ≤ i * 150 + j * 6 ∧ us.isEmpty = !((W.take i).any (fun wt => unsW F C ms wt) || (List.range j).any (fun g => badG F C ms wt g))) ⟨L, us, _, _, _, _, _, rfl, k, eL, lu, by rw [hu]; show _ = !(_ || false); rw [Bool.or_false]⟩ (fun _ _ _ _ _ => trivial) ?_ ?_
      · rintro g x σ' H3 H4 hg ⟨L, us, x6, x7, x8, x9, x10, rfl, k, eL, lu, hu⟩ ⟨rfl, hx⟩
        have hx : x = nV g := by rw [hx]; show V.int (0 + (g : Int)) = _; rw [Int.zero_add]; rfl
        subst hx
        refine ⟨_, rfl, m, rfl, ⟨_, SqL.of (k _ _ em)⟩, fun D nD => ?_⟩
        refine lc_it (walk_list (K := K) (a := m) (xs := ms.map nV)) (fun i H' => ∃ us, H' D = some (.lst us) ∧ LV (NsR H) us (insL F wt.1 (ms.take i) g) ∧ Same H4 H') ⟨[], upd_same, LV.nil, same_upd (Same.refl H4) nD⟩ ?_ ?_ ?_
        · rintro i H' _ ⟨_, _, _, k6⟩
          exact SqL.of (k6 _ _ (k _ _ em))
        · rintro i x H7 H8 hi ⟨us, eD, lv, k6⟩ ⟨rfl, hx⟩
          rw [List.length_map] at hi
          rw [nat_at hi] at hx
          have hx := Option.some.inj hx
          subst hx
          have hk : ms.getD i 0 < n := hms _ (getD_mem hi)
          obtain ⟨fx, efx, hfx⟩ := lF.get0 (i := ms.getD i 0) [] (by rw [o.fl]; exact hk)
          have lu := lv.1
          have li := insL_len F wt.1 (ms.take i) g
          rw [List.length_take] at li
          refine ⟨rfl, ?_⟩
          refine ⟨_, rfl, _, rfl, ga, _, _, _, rfl, rfl, SqT.of (k6 _ _ (k _ _ ega)), atI_nat (nat_at (by rw [wo.gl]; exact hk)), _, rfl, rfl, ?_⟩
          by_cases hg2 : wt.1.getD (ms.getD i 0) 0 = g
          · refine ⟨true, bTr (congrArg nV hg2), ?_⟩
            refine ⟨_, rfl, a, _, _, _, rfl, rfl, SqT.of (k6 _ _ (k _ _ ea)), rfl, _, rfl, fa, _, _, _, rfl, rfl, SqT.of (k6 _ _ (k _ _ efa)), atI_nat efx, ?_⟩
            refine ⟨us, eD, szN (by omega), us ++ [fx], upd_same, ?_, same_mut k6 nD⟩
            rw [take_oneD 0 hi, insL_snoc, if_pos hg2]
            exact lv.snoc hfx
          · refine ⟨false, bFa (fun z => hg2 (nV_inj z)), us, eD, ?_, k6⟩
            rw [take_oneD 0 hi, insL_snoc, if_neg hg2]
            exact lv
        · rintro H7 ⟨vs, eD, lv, k6⟩
          rw [List.length_map, List.take_length] at lv
          have k7 := k.trans k6
          refine ⟨_, rfl, !vs.isEmpty, .inl ⟨_, SqL.of eD, rfl⟩, ?_⟩
          have hv : ms.any (fun k => decide (wt.1.getD k 0 = g)) = !vs.isEmpty := by
            have l1 := lv.1
            unfold insL at l1
            rw [List.length_map] at l1
            cases e : ms.any (fun k => decide (wt.1.getD k 0 = g)) with
            | true =>
              obtain ⟨k, hk, e⟩ := List.any_eq_true.mp e
              have : k ∈ ms.filter (fun k => decide (wt.1.getD k 0 = g)) := List.mem_filter.mpr ⟨hk, e⟩
              cases vs with
              | nil => rw [List.length_eq_zero_iff.mp l1.symm] at this; cases this
              | cons _ _ => rfl
            | false =>
              have : ms.filter (fun k => decide (wt.1.getD k 0 = g)) = [] := List.filter_eq_nil_iff.mpr fun k hk => List.any_eq_false.mp e k hk
              rw [this] at l1
              rw [List.length_eq_zero_iff.mp l1]; rfl
          have eb0 : badG F C ms wt g = (!vs.isEmpty && (wt.2.getD g []).any fun p => decide (waysL C (insL F wt.1 ms g) p.1 < p.2)) := by
            unfold badG; rw [hv]
          cases ev : vs.isEmpty with
          | true =>
            rw [ev] at eb0
            refine ⟨L, us, _, _, _, _, _, rfl, k7, k6 _ _ eL, by omega, ?_⟩
            rw [range_snoc, List.any_append, hu, List.any_cons, eb0]; simp
          | false =>
            rw [ev] at eb0
            obtain ⟨rv, erv, ra, rus, rfl, era, lR⟩ := lD.get0 (i := g) [] (by omega)
            have ro := wo.rl _ (getD_mem (d := []) (i := g) (by omega))
            generalize wt.2.getD g [] = row at lR ro eb0
            refine ⟨_, rfl, _, rfl, _, rfl, da, _, _, _, rfl, rfl, SqT.of (k7 _ _ eda), atI_nat erv, ra, rfl, ⟨_, SqT.of (k7 _ _ era)⟩, fun D2 nD2 => ?_⟩
            have lr := lR.1
            have rl6 := ro.1
            have eL7 := k6 _ _ eL
            have nLD2 : L ≠ D2 := ne_of_none eL7 nD2
            refine lc_it (walk_tup (K := K) (a := ra) (xs := rus)) (fun i H' => ∃ us, H' D2 = some (.lst us) ∧ us.length ≤ i ∧ us.isEmpty = (!(row.take i).any fun p => decide (waysL C (insL F wt.1 ms g) p.1 < p.2)) ∧ Same H7 H') ⟨[], upd_same, Nat.zero_le _, rfl, same_upd (Same.refl H7) nD2⟩ ?_ ?_ ?_
            · rintro i H' _ ⟨_, _, _, _, k8⟩
              exact SqT.of (k8 _ _ (k7 _ _ era))
            · rintro i x H8 H9 hi ⟨vs2, eD2, lv2, hv2, k8⟩ ⟨rfl, hx⟩
              obtain ⟨pr, epr, pa, _, _, rfl, epa, rfl, rfl⟩ := lR.at hx
              have k9 := k7.trans k8
              have ps := ro.2 pr (List.mem_of_getElem? epr)
              have lF2 := insL_len F wt.1 ms g
              refine ⟨pa, _, rfl, SqT.of (k9 _ _ epa), rfl, _, _, rfl, _, _, rfl, rfl, rfl, ?_⟩
              refine ⟨_, rfl, a, _, _, _, rfl, rfl, SqT.of (k9 _ _ ea), rfl, _, rfl, _, rfl, c, D, vs, C, _, pr.1, rfl, (TupR.mn NsR.mn).to hC (TK.same k9), k8 _ _ eD, lv.mono fun _ _ z => NsR.mn.to z (TK.same k9), ps, insL_ok o hms ps, by omega, fun H10 k10 => ?_⟩
              refine ⟨_, rfl, _, _, rfl, rfl, ?_⟩
              have eD10 := k10 _ _ eD2
              by_cases e : waysL C (insL F wt.1 ms g) pr.1 < pr.2
              · refine ⟨true, bTr (show ((waysL C (insL F wt.1 ms g) pr.1 : Nat) : Int) < ((pr.2 : Nat) : Int) by omega), ?_⟩
                refine ⟨_, rfl, _, rfl, _, rfl, by show 3 ≤ sizeLine; decide, fun t nt => ?_⟩
                have nD2t : D2 ≠ t := ne_of_none eD10 nt
                refine ⟨vs2, by rw [upd_ne nD2t]; exact eD10, szN (by omega), vs2 ++ [.ref t], upd_same, by rw [List.length_append]; exact Nat.succ_le_succ lv2, ?_, same_mut (same_upd (k8.trans k10) nt) nD2⟩
                rw [take_one epr, List.any_append, List.any_cons, decide_eq_true e]
                cases vs2 <;> simp
              · refine ⟨false, bFa (show ¬ ((waysL C (insL F wt.1 ms g) pr.1 : Nat) : Int) < ((pr.2 : Nat) : Int) by omega), ?_⟩
                refine ⟨vs2, eD10, by omega, ?_, k8.trans k10⟩
                rw [hv2, take_one epr, List.any_append, List.any_cons, decide_eq_false e]; simp
            · rintro H8 ⟨vs2, eD2, lv2, hv2, k8⟩
              rw [List.take_of_length_le (by omega)] at hv2
              have eL8 := k8 _ _ eL7
              refine ⟨L, D2, us, vs2, rfl, rfl, eL8, eD2, Nat.le_of_lt (szN (by omega)), fun R nR => ?_⟩
              refine ⟨R, us ++ vs2, _, _, _, _, _, rfl, same_upd (k7.trans k8) nR, upd_same, by rw [List.length_append]; omega, ?_⟩
              rw [range_snoc, List.any_append, List.any_cons, eb0, List.any_nil, Bool.or_false]
              have hv3 : ((row.any fun p => decide (waysL C (insL F wt.1 ms g) p.1 < p.2)) : Bool) = !vs2.isEmpty := by rw [hv2, Bool.not_not]
              rw [hv3]
              have : (us ++ vs2).isEmpty = (us.isEmpty && vs2.isEmpty) := by cases us <;> simp
              rw [this, hu]
              cases vs2.isEmpty <;> simp
      · rintro σ' H3 ⟨L, us, x6, x7, x8, x9, x10, rfl, k, eL, lu, hu⟩
        refine ⟨L, us, _, _, _, _, _, _, _, _, rfl, k, eL, by omega, ?_⟩
        rw [hu, take_one ewt, List.any_append, List.any_cons, List.any_nil, Bool.or_false]
        show _ = !(_ || (List.range wt.2.length).any fun g => badG F C ms wt g)
        rw [ld]
    · rintro σ' H1 ⟨L, us, x3, x4, x5, x6, x7, x8, x9, x10, rfl, k, eL, lu, hu⟩
      rw [lw, List.take_length] at hu
      exact ⟨_, rfl, q H1 L us k eL (by omega) hu⟩
end
end Vf

set_option Elab.async false
set_option linter.all false
set_option maxRecDepth 100000
set_option maxHeartbeats 4000000
namespace Vf
open PySem PySem.Spec PyProof.Rows L2 TL
structure FiOk (t : Nat) (S : List Nat) (F : List (List Nat)) : Prop where
  s1 : 1 ≤ S.length
  s6 : S.length ≤ 6
  sb : ∀ s ∈ S, 1 ≤ s ∧ s ≤ 6
  f1 : 1 ≤ F.length
  ft : F.length ≤ t
  fl : ∀ f ∈ F, f.length = S.length ∧ ∀ s, s < S.length → f.getD s 0 < S.getD s 0
section
variable {P : Program} {w : World} {K : PySem.W.Frag} {mg : Str → Option Value} {base : Heap}
def spFill : Sp := fun vs H Q _ => ∃ (d l : Addr) (t : Nat), vs = [.ref d, nV t] ∧ DI d l H ∧ 1 ≤ t ∧ t ≤ 24 ∧
  ∀ H' a sz fv S F, Kp d H H' → DI d l H' → H' a = some (.tup [.ref sz, fv]) → sz ≠ d → H' sz = some (.lst (S.map nV)) → TupR NsR H' fv F → FiOk t S F → Q (.ref a) H'
theorem ok_fill (T : Txt K mg) : FnOk P w K mg base CX0 3 T.a_law_plan_fillings T.d_law_plan_fillings ["_law_d", "_law_turns"] spFill := by
  have G_law_draw : FnOk P w K mg base CX0 1 T.a_law_draw T.d_law_draw ["_law_d", "_law_many"] spDraw := ok_draw T
  have G_law_pick : FnOk P w K mg base CX0 2 T.a_law_pick T.d_law_pick ["_law_d", "_law_row"] (spPick K) := ok_pick T
  refine T.D_law_plan_fillings.F.ok sc_law_plan_fillings (fun vs H Q E h => ?_) (fun cdv A outer s H vs Q E hr h => ?_)
  · obtain ⟨d, l, t, rfl, _⟩ := h
    rfl
  · obtain ⟨d, l, t, rfl, hD, t1, t24, q⟩ := h
    refine ⟨_, (pss_cons (ps_setLc (i := 2) (own := [("_law_s", 9)]) (g := gName 9) (tt := tYes) rfl sc_law_plan_fillings.nd rfl rfl (sw_true rfl rfl rfl (by decide +kernel)) (pi_range1 (by rfl) T.n_range (pa_cons (pe_call G_law_pick (hr.mono (by decide)) (by rfl) T.D_law_pick.G T.D_law_pick.F.kp T.D_law_pick.B .nil pass0 (pa_cons (pv 0) (pa_cons (pe_lst (pa_cons pe_int (pa_cons pe_int (pa_cons pe_int (pa_cons pe_int (pa_cons pe_int (pa_cons pe_int pa_nil))))))) pa_nil))) pa_nil)) (blkOk_by (own := [("_law_s", 9)]) (N := ["_law_d", "_law_turns", "_law_sizes", "_law_counted", "_law_found", "_law_turn", "_law_one", "_law_left", "_law_many", "_law_s"]) (sc := (defScope s_law_plan_fillings)) (by decide +kernel)) (fun _ _ _ _ _ => (pg_name (i := 9) sc_law_plan_fillings.nd rfl (.inl rfl))) (fun _ _ _ _ _ => pts_nil) (fun _ _ _ _ _ => (pe_call G_law_pick (hr.mono (by decide)) (by rfl) T.D_law_pick.G T.D_law_pick.F.kp T.D_law_pick.B .nil pass0 (pa_cons (pv 0) (pa_cons (pe_lst (pa_cons pe_int (pa_cons pe_int (pa_cons pe_int (pa_cons pe_int (pa_cons pe_int pa_nil)))))) pa_nil)))))
      (pss_cons (ps_set (i := 3) sc_law_plan_fillings.nd rfl (.inl rfl) (pe_cmpR op_eq (pe_call G_law_draw (hr.mono (by decide)) (by rfl) T.D_law_draw.G T.D_law_draw.F.kp T.D_law_draw.B .nil pass0 (pa_cons (pv 0) (pa_cons pe_int pa_nil))) pe_int (nomark _)))
      (pss_cons (ps_set (i := 4) sc_law_plan_fillings.nd rfl (.inl rfl) (pe_lst pa_nil))
      (pss_cons (ps_for PassesOwn.never rfl (pi_range1 (by rfl) T.n_range (pa_cons (pv 1) pa_nil)) (pg_name (i := 5) sc_law_plan_fillings.nd rfl (.inl rfl)) (pss_cons (ps_set (i := 6) sc_law_plan_fillings.nd rfl (.inl rfl) (pe_lst pa_nil))
      (pss_cons (ps_set (i := 7) sc_law_plan_fillings.nd rfl (.inl rfl) (pv 5))
      (pss_cons (ps_for PassesOwn.never rfl (pi_list (pv 2)) (pg_name (i := 8) sc_law_plan_fillings.nd rfl (.inl rfl)) (pss_cons (ps_expr (pe_bm PySem.F.plainAttrs_list PySem.F.slot_list_append PySem.F.type_list_append mt_append (pv 6) (pa_cons (pe_ifExp (pt_val (pv 3)) (pe_op op_modN (pe_callTy call_int1 (by rfl) T.n_int (by decide +kernel) (pa_cons (pv 7) pa_nil)) (pv 8)) (pe_call G_law_draw (hr.mono (by decide)) (by rfl) T.D_law_draw.G T.D_law_draw.F.kp T.D_law_draw.B .nil pass0 (pa_cons (pv 0) (pa_cons (pv 8) pa_nil)))) pa_nil)))
      (pss_one (ps_set (i := 7) sc_law_plan_fillings.nd rfl (.inl rfl) (pe_op op_fdivN (pv 7) (pv 8))))))
      (pss_one (ps_if (pt_cmpR (op_notInD (hu65 hr)) (pe_callTy call_tuple_of (by rfl) T.n_tuple (by decide +kernel) (pa_cons (pv 6) pa_nil)) (pv 4) (by rfl)) (pss_one (ps_expr (pe_bm PySem.F.plainAttrs_list PySem.F.slot_list_append PySem.F.type_list_append mt_append (pv 4) (pa_cons (pe_callTy call_tuple_of (by rfl) T.n_tuple (by decide +kernel) (pa_cons (pv 6) pa_nil)) pa_nil)))) pss_nil))))))
      (pss_one (ps_ret (pe_tup (pa_cons (pv 2) (pa_cons (pe_callTy call_tuple_of (by rfl) T.n_tuple (by decide +kernel) (pa_cons (pe_callB cr_sortX (by rfl) T.n_sorted (by decide +kernel) (pa_cons (pv 4) pa_nil)) pa_nil)) pa_nil))))))))), ?_⟩
    refine ⟨_, rfl, by show 6 ≤ sizeLine; decide, fun M nM => ?_⟩
    refine ⟨d, l, .ref M, _, rfl, hD.new nM, .inl ⟨M, rfl, (hD.nd nM).1, SqL.of upd_same⟩, Nat.succ_pos _, by show 6 ≤ 1000; decide, fun H1 v k1 D1 hv => ?_⟩
    have k1 := ((Kp.refl d H).new nM).trans k1
    obtain ⟨m, rfl, m1, m6⟩ := isN_of (lo := 1) (hi := 6) (List.all_eq_true.mp (show List.all _ (isN 1 6) = true from rfl) v hv)
    refine ⟨(m : Int), rfl, by omega, by omega, ?_⟩
    rw [Int.toNat_natCast]
    refine fun D nD => ?_
    have nDd := D1.nd nD
    have nDH := none_kp k1 nDd.1 nD
    refine lc_it walk_range (fun i H' => ∃ S : List Nat, H' D = some (.lst (S.map nV)) ∧ S.length = i ∧ (∀ s ∈ S, 1 ≤ s ∧ s ≤ 6) ∧ Kp d H1 H' ∧ DI d l H') ⟨[], upd_same, rfl, (fun _ h => nomatch h), (Kp.refl d H1).new nD, D1.new nD⟩ (fun _ _ _ _ => trivial) ?_ ?_
    · rintro i x H2 H3 hi ⟨S, eD, ls, hS, k2, D2⟩ ⟨rfl, hx⟩
      refine ⟨rfl, ?_⟩
      refine ⟨_, rfl, by show 5 ≤ sizeLine; decide, fun M2 nM2 => ?_⟩
      refine ⟨d, l, .ref M2, _, rfl, D2.new nM2, .inl ⟨M2, rfl, (D2.nd nM2).1, SqL.of upd_same⟩, Nat.succ_pos _, by show 5 ≤ 1000; decide, fun H4 v k4 D4 hv => ?_⟩
      have k4 := ((Kp.refl d H3).new nM2).trans k4
      obtain ⟨g, rfl, g1, g6⟩ := isN_of (lo := 1) (hi := 6) (List.all_eq_true.mp (show List.all _ (isN 1 6) = true from rfl) v hv)
      refine ⟨_, k4 _ _ nDd.1 eD, szN (by rw [List.length_map]; omega), S ++ [g], by rw [upd_same, List.map_append]; rfl, by rw [List.length_append, ls]; rfl, fun s hs => ?_, (k2.trans k4).mut nD, D4.at nDd.1 nDd.2⟩
      rcases List.mem_append.mp hs with h | h
      · exact hS s h
      · rw [List.mem_singleton.mp h]; exact ⟨g1, g6⟩
    · rintro H2 ⟨S, eD, ls, hS, k2, D2⟩
      refine ⟨_, rfl, d, l, 3, rfl, D2, by decide, fun H3 r k3 D3 _ _ => ?_⟩
      refine ⟨rfl, ?_⟩
      generalize decide (V.int r = V.int 1) = cnt
      refine ⟨by show 0 ≤ sizeLine; decide, fun L nL => ?_⟩
      have nLd := D3.nd nL
      have eD3 := k3 _ _ nDd.1 eD
      have nDL : D ≠ L := ne_of_none eD3 nL
      have k13 := k1.trans (k2.trans k3)
      have nLH := none_kp k13 nLd.1 nL
      refine ⟨_, rfl, (t : Int), rfl, by omega, by omega, ?_⟩
      rw [Int.toNat_natCast]
      refine for_it walk_range (fun i σ' H' => ∃ (us : List V) (F : List (List Nat)) (x5 x6 x7 x8 x9 : Option V), σ' = [some (.ref d), some (nV t), some (.ref D), some (.bl cnt), some (.ref L), x5, x6, x7, x8, x9] ∧ Kp d H H' ∧ DI d l H' ∧ H' D = some (.lst (S.map nV)) ∧ H' L = some (.lst us) ∧ LV (NsR H') us F ∧ F.length ≤ i ∧ (1 ≤ i → 1 ≤ F.length) ∧ ∀ f ∈ F, f.length = S.length ∧ ∀ s, s < S.length → f.getD s 0 < S.getD s 0)
        ⟨[], [], _, _, _, _, _, rfl, k13.new nL, D3.new nL, by rw [upd_ne nDL]; exact eD3, upd_same, LV.nil, Nat.zero_le _, (fun z => absurd z (by omega)), fun _ h => nomatch h⟩ (fun _ _ _ _ _ => trivial) ?_ ?_
      · rintro i x σ' H4 H5 hi ⟨us, F, x5, x6, x7, x8, x9, rfl, k4, D4, eD4, eL4, lv, lF, hF1, hF⟩ ⟨rfl, hx⟩
        have hx : x = nV i := by rw [hx]; show V.int (0 + (i : Int)) = _; rw [Int.zero_add]; rfl
        subst hx
        refine ⟨by show 0 ≤ sizeLine; decide, fun O nO => ?_⟩
        have nO5 : H5 O = none := nO
        have nOd := D4.nd nO
        refine ⟨_, rfl, _, rfl, D, rfl, ⟨_, SqL.of (by rw [upd_ne (ne_of_none eD4 nO)]; exact eD4)⟩, ?_⟩
        refine for_it (walk_list (K := K) (a := D) (xs := S.map nV)) (fun j σ' H' => ∃ (os : List Nat) (lf : Nat) (x8 : Option V), σ' = [some (.ref d), some (nV t), some (.ref D), some (.bl cnt), some (.ref L), some (nV i), some (.ref O), some (nV lf), x8, x9] ∧ Kp d H5 H' ∧ DI d l H' ∧ H' O = some (.lst (os.map nV)) ∧ os.length = j ∧ (∀ s, s < j → os.getD s 0 < S.getD s 0) ∧ lf ≤ 24)
          ⟨[], i, _, rfl, (Kp.refl d H5).new nO, D4.new nO, upd_same, rfl, (fun s h => absurd h (by omega)), by omega⟩ ?_ ?_ ?_
        · rintro j σ' H' _ ⟨_, _, _, _, k, _⟩
          exact SqL.of (k _ _ nDd.1 eD4)
        · rintro j x σ' H6 H7 hj ⟨os, lf, x8, rfl, k6, D6, eO, lo, ho, hlf⟩ ⟨rfl, hx⟩
          rw [List.length_map] at hj
          rw [nat_at hj] at hx
          have hx := Option.some.inj hx
          subst hx
          have ⟨s1, s6⟩ := hS _ (getD_mem (d := 0) hj)
          refine ⟨.ref O, rfl, .inl ⟨rfl, _, .inl (.inl eO)⟩, _, rfl, _, rfl, ?_⟩
          cases cnt with
          | true =>
            refine ⟨_, rfl, .inl ⟨_, rfl, _, rfl, _, _, rfl, rfl, by omega, ?_⟩⟩
            have hg : lf % S.getD j 0 < S.getD j 0 := Nat.mod_lt _ (by omega)
            have hv : V.int ((lf : Int).fmod (S.getD j 0 : Int)) = nV (lf % S.getD j 0) := fmod_nV _ _
            generalize lf % S.getD j 0 = g at hg hv
            have eO8 := eO
            have k8 := Kp.refl d H7
            have D8 := D6
            refine ⟨O, _, _, rfl, rfl, eO8, szN (by rw [List.length_map]; omega), ?_⟩
            refine ⟨_, rfl, _, rfl, _, _, rfl, rfl, ⟨by omega, by omega⟩, ?_⟩
            refine ⟨os ++ [g], lf / S.getD j 0, some (nV (S.getD j 0)), ?_, (k6.trans k8).mut nO5, D8.at nOd.1 nOd.2, by rw [upd_same, List.map_append, List.map_cons, List.map_nil, ← hv], by rw [List.length_append, lo]; rfl, low_snoc lo ho hg, Nat.le_trans (Nat.div_le_self _ _) hlf⟩
            rw [← fdiv_nV]; rfl
          | false =>
            refine ⟨_, rfl, _, rfl, d, l, _, rfl, D6, by omega, fun H8 r k8 D8 r1 r2 => ?_⟩
            obtain ⟨g, rfl, hg⟩ := draw_nt (by omega) r1 r2
            have hg : g < S.getD j 0 := by omega
            have hv : V.int (g : Int) = nV g := rfl
            have eO8 := k8 _ _ nOd.1 eO
            refine ⟨O, _, _, rfl, rfl, eO8, szN (by rw [List.length_map]; omega), ?_⟩
            refine ⟨_, rfl, _, rfl, _, _, rfl, rfl, ⟨by omega, by omega⟩, ?_⟩
            refine ⟨os ++ [g], lf / S.getD j 0, some (nV (S.getD j 0)), ?_, (k6.trans k8).mut nO5, D8.at nOd.1 nOd.2, by rw [upd_same, List.map_append, List.map_cons, List.map_nil, ← hv], by rw [List.length_append, lo]; rfl, low_snoc lo ho hg, Nat.le_trans (Nat.div_le_self _ _) hlf⟩
            rw [← fdiv_nV]; rfl
        · rintro σ' H6 ⟨os, lf, x8, rfl, k6, D6, eO, lo, ho, hlf⟩
          rw [List.length_map] at lo ho
          refine ⟨_, rfl, O, _, rfl, .inl ⟨SqL.of eO, fun p np => ?_⟩⟩
          have npd := D6.nd np
          have kp := k6.new (o := .tup (os.map nV)) np
          have Dp6 := D6.new (o := .tup (os.map nV)) np
          have epp : upd H6 p (.tup (os.map nV)) p = some (.tup (os.map nV)) := upd_same
          have eOp : upd H6 p (.tup (os.map nV)) O = some (.lst (os.map nV)) := by rw [upd_ne (ne_of_none eO np)]; exact eO
          generalize upd H6 p (.tup (os.map nV)) = H7 at kp Dp6 epp eOp
          have t7 : TK H5 H7 := TK.kp D4 kp
          have lv7 : LV (NsR H7) us F := lv.mono fun _ _ z => NsR.mn.to z t7
          have eD7 := kp _ _ nDd.1 eD4
          have eL7 := kp _ _ nLd.1 eL4
          have k7 := k4.trans kp
          refine ⟨_, rfl, dN os, F.map dN, dN_dp ⟨p, rfl, epp⟩, .lst (SqL.of eL7) (dNs_dp lv7), dN_shaped os, dNs_shaped F, ?_⟩
          rw [dNs_any]
          by_cases c : os ∈ F
          · refine ⟨false, bNT c, ?_⟩
            exact ⟨us, F, _, _, _, _, _, rfl, k7, Dp6, eD7, eL7, lv7, by omega, fun _ => List.length_pos_of_mem c, hF⟩
          · refine ⟨true, bNF c, ?_⟩
            refine ⟨.ref L, rfl, .inl ⟨rfl, _, .inl (.inl eL7)⟩, ?_⟩
            refine ⟨_, rfl, O, _, rfl, .inl ⟨SqL.of eOp, fun p2 np2 => ?_⟩⟩
            have nL2 : L ≠ p2 := ne_of_none eL7 np2
            have k8 := k7.new (o := .tup (os.map nV)) np2
            have D8 := Dp6.new (o := .tup (os.map nV)) np2
            have lv8 : LV (NsR (upd H7 p2 (.tup (os.map nV)))) us F := lv7.mono fun _ _ z => NsR.mn.to z (TK.new (TK.refl _) np2)
            have e8 : NsR (upd H7 p2 (.tup (os.map nV))) (.ref p2) os := NsR.new
            have eL8 : upd H7 p2 (.tup (os.map nV)) L = some (.lst us) := by rw [upd_ne nL2]; exact eL7
            have eD8 : upd H7 p2 (.tup (os.map nV)) D = some (.lst (S.map nV)) := by rw [upd_ne (ne_of_none eD7 np2)]; exact eD7
            generalize upd H7 p2 (.tup (os.map nV)) = H8 at k8 D8 lv8 e8 eL8 eD8
            have lu := lv.1
            refine ⟨L, us, _, rfl, rfl, eL8, szN (by omega), ?_⟩
            refine ⟨us ++ [.ref p2], F ++ [os], _, _, _, _, _, rfl, k8.mut nLH, D8.at nLd.1 nLd.2, by rw [upd_ne nDL]; exact eD8, upd_same, ?_, by rw [List.length_append]; exact Nat.succ_le_succ lF, fun _ => by rw [List.length_append]; exact Nat.le_add_left _ _, fun f hf => ?_⟩
            · exact (lv8.snoc e8).mono fun _ _ z => NsR.mn.to z (TK.mut (TK.refl _) eL8)
            · rcases List.mem_append.mp hf with h | h
              · exact hF f h
              · rw [List.mem_singleton.mp h]; exact ⟨lo, ho⟩
      · rintro σ' H4 ⟨us, F, x5, x6, x7, x8, x9, rfl, k4, D4, eD4, eL4, lv, lF, hF1, hF⟩
        have hF1 := hF1 t1
        refine ⟨_, rfl, _, rfl, S.length, 6, by omega, L, us, rfl, SqL.of eL4, by rw [lv.1]; omega, fun x hx => ?_, fun ys p pm _ np => ?_⟩
        · obtain ⟨i, hi, e⟩ := mem_at hx
          obtain ⟨f, ef, b, rfl, eb⟩ := lv.at e
          have ⟨fl, fb⟩ := hF f (List.mem_of_getElem? ef)
          refine ⟨f.map fun x : Nat => (x : Int), ⟨b, rfl, ?_⟩, by rw [List.length_map, fl], fun m hm => ?_⟩
          · rw [map_Vint]; exact SqT.of eb
          · obtain ⟨z, hz, rfl⟩ := List.mem_map.mp hm
            obtain ⟨k, hk, ek⟩ := mem_at hz
            have h1 := fb k (by omega)
            rw [getD_of ek] at h1
            have h2 := (hS _ (getD_mem (xs := S) (i := k) (d := 0) (by omega))).2
            omega
        · have k5 := k4.new (o := .lst ys) np
          have D5 := D4.new (o := .lst ys) np
          have e5 : upd H4 p (.lst ys) p = some (.lst ys) := upd_same
          have lv5 : LV (NsR (upd H4 p (.lst ys))) us F := lv.mono fun _ _ z => NsR.mn.to z (TK.new (TK.refl _) np)
          have eD5 : upd H4 p (.lst ys) D = some (.lst (S.map nV)) := by rw [upd_ne (ne_of_none eD4 np)]; exact eD4
          generalize upd H4 p (.lst ys) = H5 at k5 D5 e5 lv5 eD5
          obtain ⟨G, lG, pG⟩ := LV.perm pm lv5
          refine ⟨p, ys, rfl, .inl ⟨SqL.of e5, fun b nb => ?_⟩⟩
          have k6 := k5.new (o := .tup ys) nb
          have D6 := D5.new (o := .tup ys) nb
          have e6 : TupR NsR (upd H5 b (.tup ys)) (.ref b) G := ⟨b, ys, rfl, upd_same, lG.mono fun _ _ z => NsR.mn.to z (TK.new (TK.refl _) nb)⟩
          have eD6 : upd H5 b (.tup ys) D = some (.lst (S.map nV)) := by rw [upd_ne (ne_of_none eD5 nb)]; exact eD5
          generalize upd H5 b (.tup ys) = H6 at k6 D6 e6 eD6
          refine ⟨by show 2 ≤ sizeLine; decide, fun r nr => ?_⟩
          refine q _ r D (.ref b) S G (k6.new nr) (D6.new nr) upd_same nDd.1 (by rw [upd_ne (ne_of_none eD6 nr)]; exact eD6) ((TupR.mn NsR.mn).to e6 (TK.new (TK.refl _) nr)) ⟨by omega, by omega, hS, by rw [pG.length_eq]; exact hF1, by rw [pG.length_eq]; exact lF, fun f hf => hF f (pG.mem_iff.mp hf)⟩
end
end Vf

set_option Elab.async false
set_option linter.all false
set_option maxRecDepth 100000
set_option maxHeartbeats 4000000
namespace Vf
open PySem PySem.Spec PyProof.Rows L2 TL
def tLow : TE := fun σ H Q => ∃ (x : Nat) (M : Addr) (ms : List Nat), σ[8]? = some (some (nV x)) ∧ σ[6]? = some (some (.ref M)) ∧ H M = some (.lst (ms.map nV)) ∧ ∀ b : Nat, b ≤ 1 → Q (nV b) H
def tGr : TE := fun σ H Q => ∃ b : Bool, σ[3]? = some (some (.bl b)) ∧ ∀ m : Int, 3 ≤ m → m ≤ 1000000000000 → Q (.int m) H
/-- max of a tuple of numbers -/
def rMaxTup (K : PySem.W.Frag) : List V → Hp → VK → Prop := fun vs H Q => ∃ (a : Addr) (ns : List Nat), vs = [V.ref a] ∧ SqT K H a (ns.map nV) ∧ 0 < ns.length ∧ ∀ m, m ∈ ns → (∀ y, y ∈ ns → y ≤ m) → Q (nV m) H
theorem fold_max : ∀ (ns : List Nat) (n : Nat), ∃ m : Nat, (ns.map fun x : Nat => (x : Int)).foldl max (n : Int) = (m : Int) ∧ m ∈ n :: ns ∧ ∀ y ∈ n :: ns, y ≤ m
  | [], n => ⟨n, rfl, List.mem_cons_self, fun y h => by rw [List.mem_singleton.mp h]; exact Nat.le_refl _⟩
  | k :: ns, n => by
    have e : max (n : Int) (k : Int) = ((max n k : Nat) : Int) := by omega
    obtain ⟨m, h1, h2, h3⟩ := fold_max ns (max n k)
    refine ⟨m, by rw [List.map_cons, List.foldl_cons, e]; exact h1, ?_, fun y hy => ?_⟩
    · rcases List.mem_cons.mp h2 with h | h
      · rw [h]
        by_cases c : n ≤ k
        · rw [Nat.max_eq_right c]; exact List.mem_cons_of_mem _ List.mem_cons_self
        · rw [Nat.max_eq_left (by omega)]; exact List.mem_cons_self
      · exact List.mem_cons_of_mem _ (List.mem_cons_of_mem _ h)
    · have h0 := h3 _ List.mem_cons_self
      rcases List.mem_cons.mp hy with h | h
      · omega
      · rcases List.mem_cons.mp h with h | h
        · omega
        · exact h3 y (List.mem_cons_of_mem _ h)
theorem call_maxTup {X : Cx} (hc : X.calm = true) (hu : X.A.units + 64 < cLine) : CallR X (.builtin "max") (rMaxTup X.K) := by
  intro pins s σ H vs us' Q I r h
  obtain ⟨a, ns, rfl, hs, hne, q⟩ := h
  obtain ⟨its, rv, hl, _⟩ := I.tuple hs
  rw [Vals.ref1 r]
  obtain ⟨as, hr⟩ := Dp.readsAll I _ _ _ (dp_nats ns) rv
  cases ns with
  | nil => exact absurd hne (Nat.lt_irrefl 0)
  | cons n ns =>
    have dd := nats_depth (n :: ns)
    have al : PySem.W.AlikeAll ((n :: ns).map fun x : Nat => PyData.int (x : Int)) := by
      refine ⟨fun x hx y hy => ?_, fun x hx => ?_⟩
      · obtain ⟨x, _, rfl⟩ := List.mem_map.mp hx
        obtain ⟨y, _, rfl⟩ := List.mem_map.mp hy
        simp [PySem.W.alike]
      · obtain ⟨x, _, rfl⟩ := List.mem_map.mp hx
        intro z; cases z
    refine PySem.W.max_tuple_data (x := .int (n : Int)) (xs := ns.map fun x : Nat => PyData.int (x : Int)) (I.ok.hd hc) hl (by simpa using hr) al ?_ fun i v h' tk bs hi rd hkp => ?_
    · have e : PyData.depthAll (PyData.int (n : Int) :: ns.map fun x : Nat => PyData.int (x : Int)) = PyData.depthAll ((n :: ns).map fun x : Nat => .int (x : Int)) := rfl
      rw [e, dd]; omega
    · obtain ⟨m, e1, e2, e3⟩ := fold_max ns n
      have em : PySem.W.maxD (.int (n : Int)) (ns.map fun x : Nat => PyData.int (x : Int)) = .int (m : Int) := by
        rw [← e1, ← PySem.W.maxD_ints, List.map_map]; rfl
      rw [em] at rd
      have hi2 : i < its.length := by
        have := (Array.getElem?_eq_some_iff.mp hi).1
        simpa using this
      have hlen := rv.length
      have gu : ((n :: ns).map nV)[i]? = some (nV ((n :: ns).getD i 0)) := nat_at (by rw [List.length_map] at hlen; omega)
      obtain ⟨v2, e4, r2⟩ := Vals.get rv gu
      have ev : v2 = v := by
        have h1 : its[i]? = some v := by simpa using hi
        rw [e4] at h1
        exact Option.some.inj h1
      subst ev
      obtain ⟨tk2, rfl⟩ := r2
      have eu := (Reads.unique (PySem.Reads.int (h := h') (((n :: ns).getD i 0 : Nat) : Int) tk2) _ _ rd).1
      have e5 : (n :: ns).getD i 0 = m := by
        have := PyData.int.inj eu
        omega
      refine ⟨nV ((n :: ns).getD i 0), H, I.kept hkp, ⟨_, rfl⟩, ?_⟩
      rw [e5]
      exact q m e2 e3
theorem first_idx {x : Nat} : ∀ {xs : List Nat}, x ∈ xs → ∃ j, j < xs.length ∧ xs[j]? = some x ∧ ∀ m z, m < j → xs[m]? = some z → z ≠ x
  | [], h => nomatch h
  | y :: xs, h => by
    by_cases c : y = x
    · subst c
      exact ⟨0, by simp, rfl, fun m z hm => absurd hm (by omega)⟩
    · obtain ⟨j, h1, h2, h3⟩ := first_idx ((List.mem_cons.mp h).resolve_left fun e => c e.symm)
      refine ⟨j + 1, by rw [List.length_cons]; omega, h2, fun m z hm hz => ?_⟩
      cases m with
      | zero => exact (Option.some.inj hz) ▸ c
      | succ m => exact h3 m z (by omega) hz
theorem idx_facts {xs : List Nat} {x j : Nat} (h1 : xs[j]? = some x) (h2 : ∀ m z, m < j → xs[m]? = some z → z ≠ x) : (xs.map nV)[j]? = some (nV x) ∧ eqV (nV x) (nV x) = true ∧ ∀ (m : Nat) (z' : V), m < j → (xs.map nV)[m]? = some z' → eqV z' (nV x) = false := by
  refine ⟨by rw [List.getElem?_map, h1]; rfl, by rw [eqV_nat]; exact decide_eq_true rfl, fun m z' hm hz => ?_⟩
  rw [List.getElem?_map] at hz
  cases g : xs[m]? with
  | none => rw [g] at hz; cases hz
  | some z =>
    rw [g] at hz
    have hz := Option.some.inj hz
    rw [← hz]
    show eqV (nV z) (nV x) = false
    rw [eqV_nat]
    exact decide_eq_false (h2 m z hm g)
section
variable {P : Program} {w : World} {K : PySem.W.Frag} {mg : Str → Option Value} {base : Heap}
def spGroups : Sp := fun vs H Q _ => ∃ (d l : Addr) (n : Nat), vs = [.ref d, nV n] ∧ DI d l H ∧ 1 ≤ n ∧ n ≤ 24 ∧
  ∀ H' gv gs N, Kp d H H' → DI d l H' → NsR H' gv gs → gs.length = n → 1 ≤ N → N ≤ 24 → (∀ g, g ∈ gs ↔ g < N) → Q gv H'
theorem ok_groups (T : Txt K mg) : FnOk P w K mg base CX0 3 T.a_law_plan_groups T.d_law_plan_groups ["_law_d", "_law_n"] spGroups := by
  have G_law_draw : FnOk P w K mg base CX0 1 T.a_law_draw T.d_law_draw ["_law_d", "_law_many"] spDraw := ok_draw T
  have G_law_pick : FnOk P w K mg base CX0 2 T.a_law_pick T.d_law_pick ["_law_d", "_law_row"] (spPick K) := ok_pick T
  refine T.D_law_plan_groups.F.ok sc_law_plan_groups (fun vs H Q E h => ?_) (fun cdv A outer s H vs Q E hr h => ?_)
  · obtain ⟨d, l, n, rfl, _⟩ := h
    rfl
  · obtain ⟨d, l, n, rfl, hD, n1, n24, q⟩ := h
    refine ⟨_, (pss_cons (ps_set (i := 2) sc_law_plan_groups.nd rfl (.inl rfl) (pe_call G_law_pick (hr.mono (by decide)) (by rfl) T.D_law_pick.G T.D_law_pick.F.kp T.D_law_pick.B .nil pass0 (pa_cons (pv 0) (pa_cons (pe_lst (pa_cons pe_int (pa_cons pe_int (pa_cons pe_int (pa_cons (pv 1) pa_nil))))) pa_nil))))
      (pss_cons (ps_set (i := 3) sc_law_plan_groups.nd rfl (.inl rfl) (pe_lst pa_nil))
      (pss_cons (ps_set (i := 4) sc_law_plan_groups.nd rfl (.inl rfl) (pe_lst pa_nil))
      (pss_cons (ps_for PassesOwn.never rfl (pi_range1 (by rfl) T.n_range (pa_cons (pv 1) pa_nil)) (pg_name (i := 5) sc_law_plan_groups.nd rfl (.inl rfl)) (pss_cons (ps_set (i := 6) sc_law_plan_groups.nd rfl (.inl rfl) (pe_call G_law_draw (hr.mono (by decide)) (by rfl) T.D_law_draw.G T.D_law_draw.F.kp T.D_law_draw.B .nil pass0 (pa_cons (pv 0) (pa_cons (pv 2) pa_nil))))
      (Evl.pss_cut (ps_if (pt_cmpR op_notIn_seq (pv 6) (pv 3) (by rfl)) (pss_one (ps_expr (pe_bm PySem.F.plainAttrs_list PySem.F.slot_list_append PySem.F.type_list_append mt_append (pv 3) (pa_cons (pv 6) pa_nil)))) pss_nil)
      (pss_one (ps_expr (pe_bm PySem.F.plainAttrs_list PySem.F.slot_list_append PySem.F.type_list_append mt_append (pv 4) (pa_cons (pe_bm PySem.F.plainAttrs_list PySem.F.slot_list_index PySem.F.type_list_index mt_index (pv 3) (pa_cons (pv 6) pa_nil)) pa_nil)))))))
      (pss_one (ps_ret (pe_callTy call_tuple_of (by rfl) T.n_tuple (by decide +kernel) (pa_cons (pv 4) pa_nil)))))))), ?_⟩
    refine ⟨_, rfl, _, rfl, by show 4 ≤ sizeLine; decide, fun M nM => ?_⟩
    refine ⟨d, l, .ref M, _, rfl, hD.new nM, .inl ⟨M, rfl, (hD.nd nM).1, SqL.of upd_same⟩, Nat.succ_pos _, by show 4 ≤ 1000; decide, fun H1 v k1 D1 hv => ?_⟩
    have k1 := ((Kp.refl d H).new nM).trans k1
    obtain ⟨m, rfl, m1, m24⟩ : ∃ m : Nat, v = nV m ∧ 1 ≤ m ∧ m ≤ 24 := by
      simp only [List.mem_cons, List.not_mem_nil, or_false] at hv
      rcases hv with rfl | rfl | rfl | rfl
      · exact ⟨1, rfl, by omega, by omega⟩
      · exact ⟨2, rfl, by omega, by omega⟩
      · exact ⟨3, rfl, by omega, by omega⟩
      · exact ⟨n, rfl, n1, n24⟩
    refine ⟨by show 0 ≤ sizeLine; decide, fun S nS => ?_⟩
    have nSd := D1.nd nS
    have nSH := none_kp k1 nSd.1 nS
    have k2 := k1.new (o := .lst []) nS
    have D2 := D1.new (o := .lst []) nS
    have eS : upd H1 S (.lst []) S = some (.lst []) := upd_same
    generalize upd H1 S (.lst []) = H2 at k2 D2 eS
    refine ⟨by show 0 ≤ sizeLine; decide, fun G nG => ?_⟩
    have nGd := D2.nd nG
    have nGH := none_kp k2 nGd.1 nG
    have nSG : S ≠ G := ne_of_none eS nG
    refine ⟨_, rfl, (n : Int), rfl, by omega, by omega, ?_⟩
    rw [toNat_k]
    refine for_it walk_range (fun i σ' H' => ∃ (ss gs : List Nat) (x5 x6 : Option V), σ' = [some (.ref d), some (nV n), some (nV m), some (.ref S), some (.ref G), x5, x6] ∧ Kp d H H' ∧ DI d l H' ∧ H' S = some (.lst (ss.map nV)) ∧ H' G = some (.lst (gs.map nV)) ∧ gs.length = i ∧ ss.length ≤ i ∧ (1 ≤ i → 1 ≤ ss.length) ∧ ∀ g, g ∈ gs ↔ g < ss.length)
      ⟨[], [], none, none, rfl, k2.new nG, D2.new nG, by rw [upd_ne nSG]; exact eS, upd_same, rfl, Nat.le_refl _, (fun h => absurd h (by omega)), fun g => ⟨(fun h => nomatch h), fun h => absurd h (Nat.not_lt_zero _)⟩⟩ (fun _ _ _ _ _ => trivial) ?_ ?_
    · rintro i x σ' H3 H4 hi ⟨ss, gs, x5, x6, rfl, k3, D3, eS, eG, lg, ls, ls1, hg⟩ ⟨rfl, hx⟩
      refine ⟨_, rfl, _, rfl, d, l, (m : Int), rfl, D3, by omega, fun H5 r k4 D4 r1 r2 => ?_⟩
      obtain ⟨mk, rfl, hmk⟩ := draw_nt (by omega) r1 r2
      have eS5 := k4 _ _ nSd.1 eS
      have eG5 := k4 _ _ nGd.1 eG
      refine ⟨fun σ' H' => ∃ (ss' : List Nat), σ' = [some (.ref d), some (nV n), some (nV m), some (.ref S), some (.ref G), some x, some (nV mk)] ∧ Kp d H H' ∧ DI d l H' ∧ H' S = some (.lst (ss'.map nV)) ∧ H' G = some (.lst (gs.map nV)) ∧ ((ss' = ss ∧ mk ∈ ss) ∨ (ss' = ss ++ [mk] ∧ mk ∉ ss)), ?_, ?_⟩
      · refine ⟨_, rfl, _, rfl, S, _, rfl, .inl (SqL.of eS5), rfl, flat_nats _, ?_⟩
        have ei2 : inV (V.int (mk : Int)) (ss.map nV) = decide (mk ∈ ss) := inV_nats _ _
        by_cases c : mk ∈ ss
        · refine ⟨false, by rw [ei2]; exact bNT c, ?_⟩
          exact ⟨ss, rfl, k3.trans k4, D4, eS5, eG5, .inl ⟨rfl, c⟩⟩
        · refine ⟨true, by rw [ei2]; exact bNF c, ?_⟩
          refine ⟨.ref S, rfl, .inl ⟨rfl, _, .inl (.inl eS5)⟩, _, rfl, S, _, _, rfl, rfl, eS5, szN (by rw [List.length_map]; omega), ?_⟩
          exact ⟨ss ++ [mk], rfl, (k3.trans k4).mut nSH, D4.at nSd.1 nSd.2, by rw [upd_same, List.map_append]; rfl, by rw [upd_ne nSG.symm]; exact eG5, .inr ⟨rfl, c⟩⟩
      · rintro σ' H6 ⟨ss', rfl, k6, D6, eS6, eG6, hss⟩
        have hm' : mk ∈ ss' := by
          rcases hss with ⟨rfl, h⟩ | ⟨rfl, _⟩
          · exact h
          · exact List.mem_append_right _ (List.mem_singleton.mpr rfl)
        obtain ⟨j, j1, j2, j3⟩ := first_idx hm'
        refine ⟨.ref G, rfl, .inl ⟨rfl, _, .inl (.inl eG6)⟩, .ref S, rfl, .inl ⟨rfl, _, .inl (.inl eS6)⟩, _, rfl, ?_⟩
        have ⟨z1, z2, z3⟩ := idx_facts j2 j3
        refine ⟨S, ss'.map nV, nV mk, j, nV mk, rfl, rfl, SqL.of eS6, rfl, flat_nats _, z1, z2, z3, ?_⟩
        refine ⟨G, _, _, rfl, rfl, eG6, szN (by rw [List.length_map]; omega), ?_⟩
        refine ⟨ss', gs ++ [j], _, _, rfl, k6.mut nGH, D6.at nGd.1 nGd.2, by rw [upd_ne nSG]; exact eS6, by rw [upd_same, List.map_append]; rfl, by rw [List.length_append, lg]; rfl, ?_, fun _ => List.length_pos_of_mem hm', fun g => ?_⟩
        · rcases hss with ⟨rfl, _⟩ | ⟨rfl, _⟩
          · omega
          · rw [List.length_append]; exact Nat.succ_le_succ ls
        · rw [List.mem_append, List.mem_singleton, hg]
          rcases hss with ⟨rfl, h⟩ | ⟨rfl, h⟩
          · constructor
            · rintro (h | h)
              · exact h
              · rw [h]; exact j1
            · exact .inl
          · have ej : j = ss.length := by
              rw [List.length_append] at j1
              have j1 : j < ss.length + 1 := j1
              rcases Nat.lt_or_ge j ss.length with c | c
              · rw [List.getElem?_append_left c] at j2
                exact absurd (List.mem_of_getElem? j2) h
              · omega
            rw [List.length_append, ej]
            show _ ↔ g < ss.length + 1
            omega
    · rintro σ' H3 ⟨ss, gs, x5, x6, rfl, k3, D3, eS, eG, lg, ls, ls1, hg⟩
      refine ⟨_, rfl, G, _, rfl, .inl ⟨SqL.of eG, fun b nb => ?_⟩⟩
      exact q _ _ gs ss.length (k3.new nb) (D3.new nb) NsR.new lg (ls1 n1) (by omega) hg
end
end Vf

set_option Elab.async false
set_option linter.all false
set_option maxRecDepth 100000
set_option maxHeartbeats 4000000
namespace Vf
open PySem PySem.Spec PyProof.Rows L2 TL
section
variable {P : Program} {w : World} {K : PySem.W.Frag} {mg : Str → Option Value} {base : Heap}
def spCounts : Sp := fun vs H Q _ => ∃ (d l sz : Addr) (fv : V) (t : Nat) (S : List Nat) (F : List (List Nat)), vs = [.ref d, .ref sz, fv] ∧ DI d l H ∧ sz ≠ d ∧ H sz = some (.lst (S.map nV)) ∧ TupR NsR H fv F ∧ FiOk t S F ∧ t ≤ 24 ∧
  ∀ H' cv C, Kp d H H' → DI d l H' → TupR NsR H' cv C → C.length = S.length → (∀ s, s < S.length → (C.getD s []).length = S.getD s 0) → Q cv H'
theorem ok_counts (T : Txt K mg) : FnOk P w K mg base CX0 3 T.a_law_plan_counts T.d_law_plan_counts ["_law_d", "_law_sizes", "_law_fillings"] spCounts := by
  have G_law_draw : FnOk P w K mg base CX0 1 T.a_law_draw T.d_law_draw ["_law_d", "_law_many"] spDraw := ok_draw T
  have G_law_rare : FnOk P w K mg base CX0 2 T.a_law_rare T.d_law_rare ["_law_d", "_law_many"] spRare := ok_rare T
  refine T.D_law_plan_counts.F.ok sc_law_plan_counts (fun vs H Q E h => ?_) (fun cdv A outer s H vs Q E hr h => ?_)
  · obtain ⟨d, l, sz, fv, t, S, F, rfl, _⟩ := h
    rfl
  · obtain ⟨d, l, sz, fv, t, S, F, rfl, hD, nsd, esz, hF, o, t24, q⟩ := h
    refine ⟨_, (pss_cons (ps_set (i := 3) sc_law_plan_counts.nd rfl (.inl rfl) (pe_call G_law_rare (hr.mono (by decide)) (by rfl) T.D_law_rare.G T.D_law_rare.F.kp T.D_law_rare.B .nil pass0 (pa_cons (pv 0) (pa_cons pe_int pa_nil))))
      (pss_cons (ps_set (i := 4) sc_law_plan_counts.nd rfl (.inl rfl) (pe_lst pa_nil))
      (pss_cons (ps_for PassesOwn.never rfl (pi_range1 (by rfl) T.n_range (pa_cons (pe_callB call_len_seq (by rfl) T.n_len PySem.boot_len (pa_cons (pv 1) pa_nil)) pa_nil)) (pg_name (i := 5) sc_law_plan_counts.nd rfl (.inr rfl)) (pss_cons (ps_setLc (i := 6) (own := [("_law_one", 10)]) (g := gName 10) (tt := tYes) rfl sc_law_plan_counts.nd rfl rfl (sw_true rfl rfl rfl (by decide +kernel)) (pi_tup (pv 2)) (blkOk_by (own := [("_law_one", 10)]) (N := ["_law_d", "_law_sizes", "_law_fillings", "_law_great", "_law_counts", "_law_s", "_law_met", "_law_row", "_law_shape", "_law_low", "_law_one"]) (sc := (defScope s_law_plan_counts)) (by decide +kernel)) (fun _ _ _ _ _ => (pg_name (i := 10) sc_law_plan_counts.nd rfl (.inl rfl))) (fun _ _ _ _ _ => pts_nil) (fun _ _ _ _ _ => (pe_ix (r := rIxT K) ix_tup (pv 10) (pv 5) (fun _ _ => rfl))))
      (pss_cons (ps_set (i := 7) sc_law_plan_counts.nd rfl (.inl rfl) (pe_lst pa_nil))
      (pss_cons (ps_for PassesOwn.never rfl (pi_range1 (by rfl) T.n_range (pa_cons (pe_ix ix_list (pv 1) (pv 5) (fun _ _ => rfl)) pa_nil)) (pg_name (i := 8) sc_law_plan_counts.nd rfl (.inl rfl)) (pss_cons (ps_set (i := 9) sc_law_plan_counts.nd rfl (.inl rfl) (PE.to (t' := tLow) (pe_ifExp (pt_cmpR op_in_seq (pv 8) (pv 6) (by rfl)) pe_int pe_int) (fun σ H Q h => by
      obtain ⟨x, M, ms, e1, e2, eM, q⟩ := h
      refine ⟨_, e1, _, e2, M, _, rfl, .inl (SqL.of eM), rfl, flat_nats _, ?_⟩
      rw [inV_nats]
      by_cases c : x ∈ ms
      · exact ⟨true, bTr c, q 1 (Nat.le_refl _)⟩
      · exact ⟨false, bFa c, q 0 (Nat.zero_le _)⟩)))
      (pss_one (ps_expr (pe_bm PySem.F.plainAttrs_list PySem.F.slot_list_append PySem.F.type_list_append mt_append (pv 7) (pa_cons (pe_op op_add (pv 9) (pe_call G_law_draw (hr.mono (by decide)) (by rfl) T.D_law_draw.G T.D_law_draw.F.kp T.D_law_draw.B .nil pass0 (pa_cons (pv 0) (pa_cons (PE.to (t' := tGr) (pe_ifExp (pt_val (pv 3)) pe_int pe_int) (fun σ H Q h => by
      obtain ⟨b, e1, q⟩ := h
      refine ⟨_, e1, b, rfl, ?_⟩
      cases b with
      | true => exact q 1000000000000 (by decide) (by decide)
      | false => exact q 3 (by decide) (by decide))) pa_nil)))) pa_nil))))))
      (pss_one (ps_expr (pe_bm PySem.F.plainAttrs_list PySem.F.slot_list_append PySem.F.type_list_append mt_append (pv 4) (pa_cons (pe_callTy call_tuple_of (by rfl) T.n_tuple (by decide +kernel) (pa_cons (pv 7) pa_nil)) pa_nil))))))))
      (pss_one (ps_ret (pe_callTy call_tuple_of (by rfl) T.n_tuple (by decide +kernel) (pa_cons (pv 4) pa_nil))))))), ?_⟩
    obtain ⟨fa, fus, rfl, efa, lF⟩ := hF
    have lf := lF.1
    have of := o.ft
    have os6 := o.s6
    refine ⟨_, rfl, d, l, 8, rfl, hD, by decide, fun H1 gr k1 D1 => ?_⟩
    refine ⟨by show 0 ≤ sizeLine; decide, fun L nL => ?_⟩
    have nLd := D1.nd nL
    have nLH := none_kp k1 nLd.1 nL
    have nszL : sz ≠ L := ne_of_none (k1 _ _ nsd esz) nL
    have k2 := k1.new (o := .lst []) nL
    have D2 := D1.new (o := .lst []) nL
    have eL : upd H1 L (.lst []) L = some (.lst []) := upd_same
    generalize upd H1 L (.lst []) = H2 at k2 D2 eL
    refine ⟨_, rfl, sz, _, rfl, .inl (SqL.of (k2 _ _ nsd esz)), (S.length : Int), by rw [List.length_map], by omega, by omega, ?_⟩
    rw [toNat_k]
    refine for_it walk_range (fun i σ' H' => ∃ (us : List V) (C : List (List Nat)) (x5 x6 x7 x8 x9 x10 : Option V), σ' = [some (.ref d), some (.ref sz), some (.ref fa), some (.bl gr), some (.ref L), x5, x6, x7, x8, x9, x10] ∧ Kp d H H' ∧ DI d l H' ∧ H' L = some (.lst us) ∧ LV (NsR H') us C ∧ C.length = i ∧ ∀ s, s < i → (C.getD s []).length = S.getD s 0)
      ⟨[], [], none, none, none, none, none, none, rfl, k2, D2, eL, LV.nil, rfl, fun s h => absurd h (by omega)⟩ (fun _ _ _ _ _ => trivial) ?_ ?_
    · rintro i x σ' H3 H4 hi ⟨us, C, x5, x6, x7, x8, x9, x10, rfl, k3, D3, eL3, lv, lC, hC⟩ ⟨rfl, hx⟩
      have hx : x = nV i := by rw [hx]; exact int0 i
      subst hx
      have efa3 := kpTup hD k3 _ _ efa
      refine ⟨_, rfl, fa, rfl, ⟨_, SqT.of efa3⟩, fun D nD => ?_⟩
      have nDd := D3.nd nD
      have nLD : L ≠ D := ne_of_none eL3 nD
      refine lc_it (walk_tup (K := K) (a := fa) (xs := fus)) (fun j H' => ∃ ms : List Nat, H' D = some (.lst (ms.map nV)) ∧ ms.length = j ∧ Same H4 H') ⟨[], upd_same, rfl, same_upd (Same.refl H4) nD⟩ ?_ ?_ ?_
      · rintro j H' _ ⟨_, _, _, k⟩
        exact SqT.of (k _ _ efa3)
      · rintro j x H5 H6 hj ⟨ms, eD, lm, k5⟩ ⟨rfl, hx⟩
        obtain ⟨f, ef, p, rfl, ep⟩ := lF.at hx
        have ⟨fl, _⟩ := o.fl f (List.mem_of_getElem? ef)
        refine ⟨rfl, ?_⟩
        refine ⟨_, rfl, _, rfl, p, _, _, _, rfl, rfl, SqT.of (k5 _ _ (kpTup hD k3 _ _ ep)), atI_nat (nat_at (i := i) (by omega)), ?_⟩
        exact ⟨_, eD, szN (by rw [List.length_map]; omega), ms ++ [f.getD i 0], by rw [upd_same, List.map_append]; rfl, by rw [List.length_append, lm]; rfl, same_mut k5 nD⟩
      · rintro H5 ⟨ms, eD, lm, k5⟩
        have D5 := D3.keep k5
        have k5' : Kp d H4 H5 := fun b o _ e => k5 _ _ e
        refine ⟨by show 0 ≤ sizeLine; decide, fun R nR => ?_⟩
        have nRd := D5.nd nR
        have nDR : D ≠ R := ne_of_none eD nR
        have nRH5 := nR
        have hsi := (o.sb _ (getD_mem (xs := S) (i := i) (d := 0) hi)).2
        have esz5 := (k3.trans k5') _ _ nsd esz
        have eL5 := k5 _ _ eL3
        have nLR : L ≠ R := ne_of_none eL5 nR
        refine ⟨_, rfl, _, rfl, sz, _, _, _, rfl, rfl, SqL.of (by rw [upd_ne (ne_of_none esz5 nR)]; exact esz5), atI_nat (nat_at hi), (S.getD i 0 : Int), rfl, by omega, by omega, ?_⟩
        rw [toNat_k]
        refine for_it walk_range (fun j σ' H' => ∃ (cs : List Nat) (x8 x9 : Option V), σ' = [some (.ref d), some (.ref sz), some (.ref fa), some (.bl gr), some (.ref L), some (nV i), some (.ref D), some (.ref R), x8, x9, x10] ∧ Kp d H5 H' ∧ DI d l H' ∧ H' R = some (.lst (cs.map nV)) ∧ cs.length = j)
          ⟨[], _, _, rfl, (Kp.refl d H5).new nR, D5.new nR, upd_same, rfl⟩ (fun _ _ _ _ _ => trivial) ?_ ?_
        · rintro j x σ' H6 H7 hj ⟨cs, x8, x9, rfl, k6, D6, eR, lc⟩ ⟨rfl, hx⟩
          have hx : x = nV j := by rw [hx]; exact int0 j
          subst hx
          refine ⟨j, D, ms, rfl, rfl, k6 _ _ nDd.1 eD, fun b hb => ?_⟩
          refine ⟨.ref R, rfl, .inl ⟨rfl, _, .inl (.inl eR)⟩, _, rfl, _, rfl, gr, rfl, fun m m3 mb => ?_⟩
          refine ⟨d, l, m, rfl, D6, by omega, fun H8 r k8 D8 r1 r2 => ?_⟩
          obtain ⟨g, rfl, hg⟩ := draw_nt (by omega) r1 r2
          refine ⟨_, _, rfl, rfl, R, _, _, rfl, rfl, k8 _ _ nRd.1 eR, szN (by rw [List.length_map]; omega), ?_⟩
          refine ⟨cs ++ [b + g], _, _, rfl, (k6.trans k8).mut nR, D8.at nRd.1 nRd.2, ?_, by rw [List.length_append, lc]; rfl⟩
          rw [upd_same, List.map_append]; rfl
        · rintro σ' H6 ⟨cs, x8, x9, rfl, k6, D6, eR, lc⟩
          have eL6 := k6 _ _ nLd.1 eL5
          refine ⟨.ref L, rfl, .inl ⟨rfl, _, .inl (.inl eL6)⟩, _, rfl, R, _, rfl, .inl ⟨SqL.of eR, fun p np => ?_⟩⟩
          have nLp : L ≠ p := ne_of_none eL6 np
          have k7 := k6.new (o := .tup (cs.map nV)) np
          have D7 := D6.new (o := .tup (cs.map nV)) np
          have e7 : NsR (upd H6 p (.tup (cs.map nV))) (.ref p) cs := NsR.new
          have eL7 : upd H6 p (.tup (cs.map nV)) L = some (.lst us) := by rw [upd_ne nLp]; exact eL6
          generalize upd H6 p (.tup (cs.map nV)) = H7 at k7 D7 e7 eL7
          have k37 := (k5'.trans k7)
          have lu := lv.1
          have lv7 : LV (NsR H7) us C := lv.mono fun _ _ z => NsR.mn.to z (kpTup D3 k37)
          refine ⟨L, us, _, rfl, rfl, eL7, szN (by omega), ?_⟩
          refine ⟨us ++ [.ref p], C ++ [cs], _, _, _, _, _, _, rfl, (k3.trans k37).mut nLH, D7.at nLd.1 nLd.2, upd_same, (lv7.snoc e7).mono fun _ _ z => NsR.mn.to z (TK.mut (TK.refl _) eL7), by rw [List.length_append, lC]; rfl, fun s hs => ?_⟩
          rcases Nat.lt_or_ge s i with h | h
          · rw [List.getD_eq_getElem?_getD, List.getElem?_append_left (by omega), ← List.getD_eq_getElem?_getD]; exact hC s h
          · have : s = i := by omega
            subst this
            rw [List.getD_eq_getElem?_getD, List.getElem?_append_right (by omega), lC, Nat.sub_self]; exact lc
    · rintro σ' H3 ⟨us, C, x5, x6, x7, x8, x9, x10, rfl, k3, D3, eL3, lv, lC, hC⟩
      refine ⟨_, rfl, L, us, rfl, .inl ⟨SqL.of eL3, fun p np => ?_⟩⟩
      exact q _ _ C (k3.new np) (D3.new np) ⟨p, us, rfl, upd_same, lv.mono fun _ _ z => NsR.mn.to z (TK.new (TK.refl _) np)⟩ lC hC
end
end Vf

set_option Elab.async false
set_option linter.all false
set_option maxRecDepth 100000
set_option maxHeartbeats 4000000
namespace Vf
open PySem PySem.Spec PyProof.Rows L2 TL
/-! ### classes -/
def put (eq : Nat → Nat → Bool) : List (List Nat) → Nat → List (List Nat)
  | [], k => [[k]]
  | c :: cs, k => if eq (c.headD 0) k = true then (c ++ [k]) :: cs else c :: put eq cs k
def cls (eq : Nat → Nat → Bool) (ms : List Nat) : List (List Nat) := ms.foldl (put eq) []
theorem cls_snoc (eq : Nat → Nat → Bool) (ms : List Nat) (k : Nat) : cls eq (ms ++ [k]) = put eq (cls eq ms) k := by
  unfold cls; rw [List.foldl_append]; rfl
/-- the first class that k belongs to -/
theorem put_at {eq : Nat → Nat → Bool} {k : Nat} : ∀ {cs : List (List Nat)} {j : Nat}, j < cs.length → (∀ i, i < j → eq ((cs.getD i []).headD 0) k = false) → eq ((cs.getD j []).headD 0) k = true → put eq cs k = cs.set j (cs.getD j [] ++ [k])
  | [], j, h, _, _ => by cases h
  | c :: cs, 0, _, _, h => by
    have h : eq (c.headD 0) k = true := h
    show (if eq (c.headD 0) k = true then (c ++ [k]) :: cs else c :: put eq cs k) = _
    rw [if_pos h]; rfl
  | c :: cs, j + 1, hj, h1, h2 => by
    have h0 : eq (c.headD 0) k = false := h1 0 (by omega)
    show (if eq (c.headD 0) k = true then (c ++ [k]) :: cs else c :: put eq cs k) = _
    rw [h0, if_neg Bool.false_ne_true, put_at (cs := cs) (j := j) (by rw [List.length_cons] at hj; omega) (fun i hi => h1 (i + 1) (by omega)) h2]
    rfl
theorem put_new {eq : Nat → Nat → Bool} {k : Nat} : ∀ {cs : List (List Nat)}, (∀ i, i < cs.length → eq ((cs.getD i []).headD 0) k = false) → put eq cs k = cs ++ [[k]]
  | [], _ => rfl
  | c :: cs, h => by
    have h0 : eq (c.headD 0) k = false := h 0 (by simp)
    show (if eq (c.headD 0) k = true then (c ++ [k]) :: cs else c :: put eq cs k) = _
    rw [h0, if_neg Bool.false_ne_true, put_new (cs := cs) fun i hi => h (i + 1) (by rw [List.length_cons]; omega)]
    rfl
/-- what holds of the classes of members below n -/
def CsOk (n : Nat) (ms : List Nat) (cs : List (List Nat)) : Prop := cs.length ≤ ms.length ∧ (∀ c ∈ cs, c ≠ [] ∧ c.length ≤ ms.length ∧ ∀ k ∈ c, k ∈ ms) ∧ (cs.map List.length).sum = ms.length
theorem set_sum {xs : List (List Nat)} {j k : Nat} (hj : j < xs.length) : ((xs.set j (xs.getD j [] ++ [k])).map List.length).sum = (xs.map List.length).sum + 1 := by
  induction xs generalizing j with
  | nil => cases hj
  | cons x xs ih =>
    cases j with
    | zero =>
      show ((x ++ [k]).length + (xs.map List.length).sum) = x.length + (xs.map List.length).sum + 1
      rw [List.length_append]
      show x.length + 1 + _ = _
      omega
    | succ j =>
      have := ih (j := j) (by rw [List.length_cons] at hj; omega)
      show x.length + ((xs.set j (xs.getD j [] ++ [k])).map List.length).sum = x.length + (xs.map List.length).sum + 1
      omega
theorem put_ok {eq : Nat → Nat → Bool} {n k : Nat} {ms : List Nat} {cs : List (List Nat)} (h : CsOk n ms cs) : CsOk n (ms ++ [k]) (put eq cs k) := by
  obtain ⟨h1, h2, h3⟩ := h
  by_cases c : ∃ j, j < cs.length ∧ eq ((cs.getD j []).headD 0) k = true
  · -- the first one
    have : ∃ j, j < cs.length ∧ (∀ i, i < j → eq ((cs.getD i []).headD 0) k = false) ∧ eq ((cs.getD j []).headD 0) k = true := by
      obtain ⟨j, hj, e⟩ := c
      induction j using Nat.strongRecOn with
      | _ j ih =>
        by_cases c2 : ∃ i, i < j ∧ eq ((cs.getD i []).headD 0) k = true
        · obtain ⟨i, hi, e2⟩ := c2
          exact ih i hi (by omega) e2
        · refine ⟨j, hj, fun i hi => ?_, e⟩
          cases z : eq ((cs.getD i []).headD 0) k with
          | false => rfl
          | true => exact absurd ⟨i, hi, z⟩ c2
    obtain ⟨j, hj, a, b⟩ := this
    rw [put_at hj a b]
    refine ⟨by rw [List.length_set, List.length_append]; exact Nat.le_succ_of_le h1, fun c hc => ?_, by rw [set_sum hj, h3, List.length_append]; rfl⟩
    rcases List.mem_or_eq_of_mem_set hc with h | h
    · have ⟨x, y, z⟩ := h2 c h
      exact ⟨x, by rw [List.length_append]; exact Nat.le_succ_of_le y, fun k hk => List.mem_append_left _ (z k hk)⟩
    · have ⟨x, y, z⟩ := h2 _ (getD_mem (d := []) hj)
      rw [h]
      refine ⟨by simp, by rw [List.length_append, List.length_append]; exact Nat.succ_le_succ y, fun q hq => ?_⟩
      rcases List.mem_append.mp hq with g | g
      · exact List.mem_append_left _ (z q g)
      · exact List.mem_append_right _ g
  · rw [put_new (fun i hi => by
      cases z : eq ((cs.getD i []).headD 0) k with
      | false => rfl
      | true => exact absurd ⟨i, hi, z⟩ c)]
    refine ⟨by rw [List.length_append, List.length_append]; exact Nat.succ_le_succ h1, fun c hc => ?_, by rw [List.map_append, List.sum_append, h3, List.length_append]; rfl⟩
    rcases List.mem_append.mp hc with h | h
    · have ⟨x, y, z⟩ := h2 c h
      exact ⟨x, by rw [List.length_append]; exact Nat.le_succ_of_le y, fun k hk => List.mem_append_left _ (z k hk)⟩
    · rw [List.mem_singleton.mp h]
      exact ⟨by simp, by rw [List.length_append]; show 1 ≤ _ + 1; omega, fun q hq => List.mem_append_right _ hq⟩
theorem cls_ok {eq : Nat → Nat → Bool} {n : Nat} (ms : List Nat) : CsOk n ms (cls eq ms) := by
  refine list_snoc (p := fun ms => CsOk n ms (cls eq ms)) ⟨Nat.le_refl _, (fun _ h => nomatch h), rfl⟩ (fun l x ih => ?_) ms
  rw [cls_snoc]; exact put_ok ih
/-- lists of numbers at addresses of their own -/
structure CsV (H0 H : Hp) (L : Addr) (cs : List (List Nat)) (as : List Addr) : Prop where
  eL : H L = some (.lst (as.map V.ref))
  len : as.length = cs.length
  ea : ∀ (i : Nat) (a : Addr) (c : List Nat), as[i]? = some a → cs[i]? = some c → H a = some (.lst (c.map nV)) ∧ H0 a = none
  nd : as.Nodup
  nL : L ∉ as
  n0 : H0 L = none
theorem CsV.get {H0 H : Hp} {L : Addr} {cs : List (List Nat)} {as : List Addr} (h : CsV H0 H L cs as) {i : Nat} (hi : i < cs.length) : ∃ a, as[i]? = some a ∧ (as.map V.ref)[i]? = some (.ref a) ∧ H a = some (.lst ((cs.getD i []).map nV)) ∧ H0 a = none ∧ a ≠ L := by
  have e : as[i]? = some (as[i]'(by rw [h.len]; exact hi)) := List.getElem?_eq_getElem _
  have e2 : cs[i]? = some (cs.getD i []) := by rw [List.getD_eq_getElem?_getD, List.getElem?_eq_getElem hi]; rfl
  have ⟨a, b⟩ := h.ea i _ _ e e2
  refine ⟨_, e, by rw [List.getElem?_map, e]; rfl, a, b, fun z => h.nL (z ▸ List.mem_of_getElem? e)⟩
theorem CsV.same {H0 H H' : Hp} {L : Addr} {cs : List (List Nat)} {as : List Addr} (h : CsV H0 H L cs as) (k : Same H H') : CsV H0 H' L cs as :=
  ⟨k _ _ h.eL, h.len, fun i a c e1 e2 => ⟨k _ _ (h.ea i a c e1 e2).1, (h.ea i a c e1 e2).2⟩, h.nd, h.nL, h.n0⟩
/-- a class more -/
theorem CsV.snoc {H0 H : Hp} {L p : Addr} {cs : List (List Nat)} {as : List Addr} {c : List Nat} (h : CsV H0 H L cs as) (hp : H p = some (.lst (c.map nV))) (np : p ∉ as) (nL : p ≠ L) (n0 : H0 p = none) : CsV H0 (upd H L (.lst (as.map V.ref ++ [.ref p]))) L (cs ++ [c]) (as ++ [p]) := by
  refine ⟨by rw [upd_same, List.map_append]; rfl, by rw [List.length_append, List.length_append, h.len]; rfl, fun i a q e1 e2 => ?_, ?_, fun z => ?_, h.n0⟩
  · by_cases hi : i < as.length
    · rw [List.getElem?_append_left hi] at e1
      rw [List.getElem?_append_left (by rw [← h.len]; exact hi)] at e2
      have ⟨x, y⟩ := h.ea i a q e1 e2
      have ne : a ≠ L := fun z => h.nL (z ▸ List.mem_of_getElem? e1)
      exact ⟨by rw [upd_ne ne]; exact x, y⟩
    · rw [List.getElem?_append_right (by omega)] at e1
      rw [List.getElem?_append_right (by rw [← h.len]; omega)] at e2
      have z : i - as.length = 0 := by
        have := (List.getElem?_eq_some_iff.mp e1).1
        simp at this
        exact this
      rw [z] at e1
      rw [← h.len, z] at e2
      have e1 := Option.some.inj e1
      have e2 := Option.some.inj e2
      subst e1 e2
      exact ⟨by rw [upd_ne nL]; exact hp, n0⟩
  · rw [List.nodup_append]
    exact ⟨h.nd, by simp, fun a ha b hb e => np (by rw [List.mem_singleton.mp hb] at e; exact e ▸ ha)⟩
  · rcases List.mem_append.mp z with z | z
    · exact h.nL z
    · exact nL (List.mem_singleton.mp z).symm
/-- a class changed -/
theorem CsV.put {H0 H : Hp} {L a : Addr} {cs : List (List Nat)} {as : List Addr} {j : Nat} {c : List Nat} (h : CsV H0 H L cs as) (ha : as[j]? = some a) : CsV H0 (upd H a (.lst (c.map nV))) L (cs.set j c) as := by
  have ma := List.mem_of_getElem? ha
  have hj := (List.getElem?_eq_some_iff.mp ha).1
  refine ⟨by rw [upd_ne (fun z : L = a => h.nL (by rw [z]; exact ma))]; exact h.eL, by rw [List.length_set]; exact h.len, fun i b q e1 e2 => ?_, h.nd, h.nL, h.n0⟩
  rw [List.getElem?_set] at e2
  by_cases e : j = i
  · rw [if_pos e] at e2
    subst e
    rw [if_pos (by rw [← h.len]; exact hj)] at e2
    have e2 := Option.some.inj e2
    rw [ha] at e1
    have e1 := Option.some.inj e1
    subst e1 e2
    refine ⟨upd_same, ?_⟩
    have e3 : cs[j]? = some (cs[j]'(by rw [← h.len]; exact hj)) := List.getElem?_eq_getElem _
    exact (h.ea j a _ ha e3).2
  · rw [if_neg e] at e2
    have ⟨x, y⟩ := h.ea i b q e1 e2
    have hi := (List.getElem?_eq_some_iff.mp e1).1
    have ne : b ≠ a := fun z => by
      have h1 := (List.getElem?_eq_some_iff.mp e1).2
      have h2 := (List.getElem?_eq_some_iff.mp ha).2
      have pw := List.pairwise_iff_getElem.mp h.nd
      rcases Nat.lt_or_gt_of_ne e with c | c
      · exact pw j i hj hi c (by rw [h1, h2, z])
      · exact pw i j hi hj c (by rw [h1, h2, z])
    exact ⟨by rw [upd_ne ne]; exact x, y⟩
def eqs (D : List (List PyData)) (lv : Nat) (a b : Nat) : Bool := PyData.eqv (dat D a lv) (dat D b lv)
theorem head_mem {n : Nat} {ms : List Nat} {cs : List (List Nat)} (h : CsOk n ms cs) {i : Nat} (hi : i < cs.length) : (cs.getD i []).getD 0 0 = (cs.getD i []).headD 0 ∧ (cs.getD i []).headD 0 ∈ ms ∧ 0 < (cs.getD i []).length := by
  have ⟨a, b, c⟩ := h.2.1 _ (getD_mem (xs := cs) (i := i) (d := []) hi)
  cases e : cs.getD i [] with
  | nil => exact absurd e a
  | cons x r =>
    rw [e] at c
    exact ⟨rfl, c x List.mem_cons_self, by simp⟩
section
variable {P : Program} {w : World} {K : PySem.W.Frag} {mg : Str → Option Value} {base : Heap}
def spClassesAt : Sp := fun vs H Q _ => ∃ (v : V) (lv : Nat) (m : Addr) (n L : Nat) (D : List (List PyData)) (ms : List Nat), vs = [v, nV lv, .ref m] ∧ VwR H v D ∧ VwOk n L D ∧ lv < L ∧ H m = some (.tup (ms.map nV)) ∧ (∀ k ∈ ms, k < n) ∧ ms.length ≤ 100 ∧
  ∀ H' c, Same H H' → TupR NsR H' c (cls (eqs D lv) ms) → Q c H'
theorem ok_classes_at (T : Txt K mg) : FnOk P w K mg base CX0 1 T.a_classes_at T.d_classes_at ["views", "level", "members"] spClassesAt := by
  refine T.D_classes_at.F.ok sc_classes_at (fun vs H Q E h => ?_) (fun cdv A outer s H vs Q E hr h => ?_)
  · obtain ⟨v, lv, m, n, L, D, ms, rfl, _⟩ := h
    rfl
  · obtain ⟨v, lv, m, n, L, D, ms, rfl, hv, o, hl, em, hms, l100, q⟩ := h
    refine ⟨_, (pss_cons (ps_set (i := 3) sc_classes_at.nd rfl (.inl rfl) (pe_lst pa_nil))
      (pss_cons (ps_for PassesOwn.never rfl (pi_tup (pv 2)) (pg_name (i := 4) sc_classes_at.nd rfl (.inl rfl)) (pss_cons (ps_set (i := 5) sc_classes_at.nd rfl (.inl rfl) (pe_ix ix_tup (pe_ix ix_tup (pv 0) (pv 4) (fun _ _ => rfl)) (pv 1) (fun _ _ => rfl)))
      (pss_cons (ps_set (i := 6) sc_classes_at.nd rfl (.inl rfl) pe_int)
      (Evl.pss_cut (ps_while PassesOwn.never (PW.pt (pw_and (pt_cmpR op_lt (pv 6) (pe_callB call_len_seq (by rfl) T.n_len PySem.boot_len (pa_cons (pv 3) pa_nil)) (nomark _)) (pw_and1 (pt_cmpR (op_neD (Room.units hr)) (pe_ix ix_tup (pe_ix ix_tup (pv 0) (pe_ix ix_list (pe_ix ix_list (pv 3) (pv 6) (fun _ _ => rfl)) pe_int (fun _ _ => rfl)) (fun _ _ => rfl)) (pv 1) (fun _ _ => rfl)) (pv 5) (nomark _))))) (pss_one (ps_aug (i := 6) sc_classes_at.nd rfl (.inl rfl) pe_int ip_add)))
      (Evl.pss_cut (ps_if (pt_cmpR op_eq (pv 6) (pe_callB call_len_seq (by rfl) T.n_len PySem.boot_len (pa_cons (pv 3) pa_nil)) (nomark _)) (pss_one (ps_expr (pe_bm PySem.F.plainAttrs_list PySem.F.slot_list_append PySem.F.type_list_append mt_append (pv 3) (pa_cons (pe_lst pa_nil) pa_nil)))) pss_nil)
      (pss_one (ps_expr (pe_bm PySem.F.plainAttrs_list PySem.F.slot_list_append PySem.F.type_list_append mt_append (pe_ix ix_list (pv 3) (pv 6) (fun _ _ => rfl)) (pa_cons (pv 4) pa_nil)))))))))
      (pss_one (ps_ret (pe_callTy call_tuple_of (by rfl) T.n_tuple (by decide +kernel) (pa_cons (pe_lc (own := [("found", 7)]) (g := gName 7) (tt := tYes) rfl sc_classes_at.nd (pi_list (pv 3)) (blkOk_by (own := [("found", 7)]) (N := ["views", "level", "members", "classes", "k", "value", "at", "found"]) (sc := (defScope s_classes_at)) (by decide +kernel)) (fun _ _ _ _ _ => (pg_name (i := 7) sc_classes_at.nd rfl (.inl rfl))) (fun _ _ _ _ _ => pts_nil) (fun _ _ _ _ _ => (pe_callTy (T := "tuple") (r := rTupleOf K) call_tuple_of (by rfl) T.n_tuple (by decide +kernel) (pa_cons (pv 7) pa_nil)))) pa_nil)))))), ?_⟩
    obtain ⟨va, vus, rfl, eva, lvu, hat⟩ := hv.get o
    refine ⟨by show 0 ≤ sizeLine; decide, fun C nC => ?_⟩
    have k0 := same_upd (o := .lst []) (Same.refl H) nC
    refine ⟨_, rfl, m, rfl, ⟨_, SqT.of (k0 _ _ em)⟩, ?_⟩
    refine for_it (walk_tup (K := K) (a := m) (xs := ms.map nV)) (fun i σ' H' => ∃ (as : List Addr) (x4 x5 x6 x7 : Option V), σ' = [some (.ref va), some (nV lv), some (.ref m), some (.ref C), x4, x5, x6, x7] ∧ Same H H' ∧ CsV H H' C (cls (eqs D lv) (ms.take i)) as)
      ⟨[], none, none, none, none, rfl, k0, ⟨upd_same, rfl, (fun i a c e => by cases i <;> cases e), List.nodup_nil, (fun h => nomatch h), nC⟩⟩ ?_ ?_ ?_
    · rintro i σ' H' _ ⟨_, _, _, _, _, _, k, _⟩
      exact SqT.of (k _ _ em)
    · rintro i x σ' H1 H2 hi ⟨as, x4, x5, x6, x7, rfl, k, hc⟩ ⟨rfl, hx⟩
      rw [List.length_map] at hi
      rw [nat_at hi] at hx
      have hx := Option.some.inj hx
      subst hx
      have hk : ms.getD i 0 < n := hms _ (getD_mem hi)
      have et := take_oneD 0 hi
      have co : CsOk n (ms.take i) (cls (eqs D lv) (ms.take i)) := cls_ok _
      have hml : ∀ k ∈ ms.take i, k < n := fun k h => hms k (List.mem_of_mem_take h)
      have lt : (ms.take i).length ≤ 100 := by rw [List.length_take]; omega
      have es : cls (eqs D lv) (ms.take (i + 1)) = put (eqs D lv) (cls (eqs D lv) (ms.take i)) (ms.getD i 0) := by rw [et, cls_snoc]
      generalize cls (eqs D lv) (ms.take (i + 1)) = cs' at es
      generalize cls (eqs D lv) (ms.take i) = cs at hc co es
      generalize ms.getD i 0 = kk at hk es
      obtain ⟨ra, rus, erv, era, lru, hlv⟩ := hat kk hk
      obtain ⟨vx, evx, tvx⟩ := hlv lv hl
      refine ⟨_, rfl, _, rfl, va, _, _, _, rfl, rfl, SqT.of (k _ _ eva), atI_nat erv, _, rfl, ra, _, _, _, rfl, rfl, SqT.of (k _ _ era), atI_nat evx, ?_⟩
      -- the search
      have hC := hc.eL
      have lc := hc.len
      have clen := co.1
      refine ⟨fun σ' H' => ∃ j : Nat, H' = H2 ∧ σ' = [some (.ref va), some (nV lv), some (.ref m), some (.ref C), some (nV kk), some vx, some (nV j), x7] ∧ (∀ q, q < j → eqs D lv ((cs.getD q []).headD 0) kk = false) ∧ (j = cs.length ∨ j < cs.length ∧ eqs D lv ((cs.getD j []).headD 0) kk = true), ?_, ?_⟩
      · refine ⟨fun mm σ' H' => ∃ j : Nat, mm + j = cs.length ∧ H' = H2 ∧ σ' = [some (.ref va), some (nV lv), some (.ref m), some (.ref C), some (nV kk), some vx, some (nV j), x7] ∧ ∀ q, q < j → eqs D lv ((cs.getD q []).headD 0) kk = false, ⟨cs.length, 0, by omega, rfl, rfl, fun q h => absurd h (by omega)⟩, fun mm σ' H' hW => ?_⟩
        obtain ⟨j, ej, rfl, rfl, hj⟩ := hW
        refine ⟨_, rfl, _, rfl, C, _, rfl, .inl (SqL.of hC), _, _, rfl, rfl, ?_⟩
        have el : ((as.map V.ref).length : Int) = (cs.length : Int) := by rw [List.length_map, lc]
        by_cases c : j < cs.length
        · refine ⟨true, bTr (by rw [el]; omega), ?_⟩
          obtain ⟨a, ea, ea2, eHa, _, _⟩ := hc.get c
          have ⟨h0, hm, hp⟩ := head_mem co c
          have hn := hml _ hm
          obtain ⟨rb, rbs, erb, erb2, lrb, hlb⟩ := hat _ hn
          obtain ⟨vy, evy, tvy⟩ := hlb lv hl
          have g0 := nat_at (xs := cs.getD j []) (i := 0) hp
          rw [h0] at g0
          have e1 : okD (dat D ((cs.getD j []).headD 0) lv) := o.ok hn hl
          have e2 : okD (dat D kk lv) := o.ok hk hl
          refine ⟨_, rfl, _, rfl, _, rfl, C, _, _, _, rfl, rfl, SqL.of hC, atI_nat ea2, a, _, _, _, rfl, rfl, SqL.of eHa, atI_nat (j := 0) g0, va, _, _, _, rfl, rfl, SqT.of (k _ _ eva), atI_nat erb, _, rfl, rb, _, _, _, rfl, rfl, SqT.of (k _ _ erb2), atI_nat evy, _, rfl, _, _, (Td.to (TK.same k) tvy).dp, (Td.to (TK.same k) tvx).dp, e1.sh, e2.sh, ?_⟩
          cases e : eqs D lv ((cs.getD j []).headD 0) kk with
          | true =>
            have e' : PyData.eqv (dat D ((cs.getD j []).headD 0) lv) (dat D kk lv) = true := e
            refine ⟨false, by rw [e']; rfl, ?_⟩
            exact ⟨j, rfl, rfl, hj, .inr ⟨c, e⟩⟩
          | false =>
            have e' : PyData.eqv (dat D ((cs.getD j []).headD 0) lv) (dat D kk lv) = false := e
            refine ⟨true, by rw [e']; rfl, ?_⟩
            refine ⟨fun σ' H1 => H1 = H' ∧ σ' = [some (.ref va), some (nV lv), some (.ref m), some (.ref C), some (nV kk), some vx, some (nV (j + 1)), x7], fun σ' H1 hN => ?_, ?_⟩
            · obtain ⟨rfl, rfl⟩ := hN
              refine ⟨mm - 1, by omega, j + 1, by omega, rfl, rfl, fun q hq => ?_⟩
              by_cases z : q = j
              · rw [z]; exact e
              · exact hj q (by omega)
            · exact ⟨_, rfl, _, _, rfl, rfl, rfl, rfl⟩
        · refine ⟨false, bFa (by rw [el]; omega), ?_⟩
          exact ⟨j, rfl, rfl, hj, .inl (by omega)⟩
      · rintro σ' H3 ⟨j, rfl, rfl, hj, hfin⟩
        refine ⟨fun σ' H' => ∃ as', σ' = [some (.ref va), some (nV lv), some (.ref m), some (.ref C), some (nV kk), some vx, some (nV j), x7] ∧ Same H H' ∧ CsV H H' C (if j = cs.length then cs ++ [[]] else cs) as', ?_, ?_⟩
        · refine ⟨_, rfl, _, rfl, C, _, rfl, .inl (SqL.of hC), rfl, ?_⟩
          have el : ((as.map V.ref).length : Int) = (cs.length : Int) := by rw [List.length_map, lc]
          by_cases c : j = cs.length
          · refine ⟨true, bTr (by show V.int (j : Int) = V.int ((as.map V.ref).length : Int); rw [el, c]), ?_⟩
            refine ⟨.ref C, rfl, .inl ⟨rfl, _, .inl (.inl hC)⟩, by show 0 ≤ sizeLine; decide, fun p np => ?_⟩
            have nCp : C ≠ p := ne_of_none hC np
            have h4 := hc.same (same_upd (o := .lst []) (Same.refl H3) np)
            refine ⟨C, _, _, rfl, rfl, h4.eL, szN (by rw [List.length_map]; omega), ?_⟩
            refine ⟨as ++ [p], rfl, same_mut (same_upd k np) hc.n0, ?_⟩
            rw [if_pos c]
            refine h4.snoc upd_same (fun z => ?_) nCp.symm (none_same k np)
            obtain ⟨i, hi, e⟩ := mem_at z
            have e2 : cs[i]? = some (cs[i]'(by omega)) := List.getElem?_eq_getElem _
            have := (hc.ea i p _ e e2).1
            rw [np] at this; cases this
          · refine ⟨false, bFa (by show ¬ V.int (j : Int) = V.int ((as.map V.ref).length : Int); rw [el]; intro z; have := V.int.inj z; omega), ?_⟩
            exact ⟨as, rfl, k, by rw [if_neg c]; exact hc⟩
        · rintro σ' H4 ⟨as', rfl, k4, hc4⟩
          have hlt : j < (if j = cs.length then cs ++ [[]] else cs).length := by
            split
            · rw [List.length_append]; show j < cs.length + 1; omega
            · rcases hfin with h | h
              · exact absurd h (by assumption)
              · exact h.1
          obtain ⟨a, ea, ea2, eHa, na, naC⟩ := hc4.get hlt
          have hC4 := hc4.eL
          have lg : ((if j = cs.length then cs ++ [[]] else cs).getD j []).length ≤ 100 := by
            split
            · next c =>
              rw [c, List.getD_eq_getElem?_getD, List.getElem?_append_right (Nat.le_refl _), Nat.sub_self]
              exact Nat.zero_le _
            · next c =>
              rcases hfin with h | h
              · exact absurd h c
              · exact Nat.le_trans (co.2.1 _ (getD_mem (d := []) h.1)).2.1 lt
          refine ⟨_, rfl, _, rfl, C, _, _, _, rfl, rfl, SqL.of hC4, atI_nat ea2, .inl ⟨rfl, _, .inl (.inl eHa)⟩, _, rfl, a, _, _, rfl, rfl, eHa, szN (by rw [List.length_map]; omega), ?_⟩
          refine ⟨as', _, _, _, _, rfl, same_mut k4 na, ?_⟩
          have e1 : ((if j = cs.length then cs ++ [[]] else cs).getD j []).map nV ++ [nV kk] = ((if j = cs.length then cs ++ [[]] else cs).getD j [] ++ [kk]).map nV := by rw [List.map_append]; rfl
          rw [e1]
          have h5 := hc4.put (c := (if j = cs.length then cs ++ [[]] else cs).getD j [] ++ [kk]) ea
          have e2 : (if j = cs.length then cs ++ [[]] else cs).set j ((if j = cs.length then cs ++ [[]] else cs).getD j [] ++ [kk]) = cs' := by
            rw [es]
            by_cases c : j = cs.length
            · rw [if_pos c, put_new (fun q hq => hj q (by omega)), c, List.getD_eq_getElem?_getD, List.getElem?_append_right (Nat.le_refl _), Nat.sub_self, List.set_append_right _ _ (Nat.le_refl _), Nat.sub_self]
              rfl
            · rcases hfin with h | h
              · exact absurd h c
              · rw [if_neg c, put_at h.1 hj h.2]
          rw [e2] at h5
          exact h5
    · rintro σ' H1 ⟨as, x4, x5, x6, x7, rfl, k, hc⟩
      rw [List.length_map, List.take_length] at hc
      have co : CsOk n ms (cls (eqs D lv) ms) := cls_ok _
      have clen := co.1
      generalize cls (eqs D lv) ms = cs at hc q clen
      have lc := hc.len
      refine ⟨_, rfl, C, rfl, ⟨_, SqL.of hc.eL⟩, fun D2 nD2 => ?_⟩
      refine lc_it (walk_list (K := K) (a := C) (xs := as.map V.ref)) (fun i H' => ∃ us, H' D2 = some (.lst us) ∧ LV (NsR H') us (cs.take i) ∧ Same H1 H') ⟨[], upd_same, LV.nil, same_upd (Same.refl H1) nD2⟩ ?_ ?_ ?_
      · rintro i H' _ ⟨_, _, _, k2⟩
        exact SqL.of (k2 _ _ hc.eL)
      · rintro i x H2 H3 hi ⟨us, eD2, lvs, k2⟩ ⟨rfl, hx⟩
        rw [List.length_map] at hi
        obtain ⟨a, ea, ea2, eHa, _, _⟩ := hc.get (i := i) (by omega)
        rw [ea2] at hx
        have hx := Option.some.inj hx
        subst hx
        refine ⟨rfl, ?_⟩
        refine ⟨_, rfl, a, _, rfl, .inl ⟨SqL.of (k2 _ _ eHa), fun p np => ?_⟩⟩
        have eDp : upd H3 p (.tup ((cs.getD i []).map nV)) D2 = some (.lst us) := by rw [upd_ne (ne_of_none eD2 np)]; exact eD2
        have lvp : LV (NsR (upd H3 p (.tup ((cs.getD i []).map nV)))) us (cs.take i) := lvs.mono fun _ _ z => NsR.mn.to z (TK.new (TK.refl _) np)
        have lu := lvs.1
        rw [List.length_take] at lu
        refine ⟨us, eDp, szN (by omega), us ++ [.ref p], upd_same, ?_, same_mut (same_upd k2 np) nD2⟩
        rw [take_oneD [] (by omega)]
        exact (lvp.snoc NsR.new).mono fun _ _ z => NsR.mn.to z (TK.mut (TK.refl _) eDp)
      · rintro H2 ⟨us, eD2, lvs, k2⟩
        rw [List.length_map, lc, List.take_length] at lvs
        refine ⟨D2, us, rfl, .inl ⟨SqL.of eD2, fun p np => ?_⟩⟩
        exact q _ _ (same_upd (k.trans k2) np) ⟨p, us, rfl, upd_same, lvs.mono fun _ _ z => NsR.mn.to z (TK.new (TK.refl _) np)⟩
end
section
variable {P : Program} {w : World} {K : PySem.W.Frag} {mg : Str → Option Value} {base : Heap}
def spLClasses : Sp := fun vs H Q _ => ∃ (v : V) (m : Addr) (lv : Nat) (n L : Nat) (D : List (List PyData)) (ms : List Nat), vs = [v, .ref m, nV lv] ∧ VwR H v D ∧ VwOk n L D ∧ lv < L ∧ H m = some (.lst (ms.map nV)) ∧ (∀ k ∈ ms, k < n) ∧ ms.length ≤ 100 ∧
  ∀ H' C as, Same H H' → CsV H H' C (cls (eqs D lv) ms) as → Q (.ref C) H'
theorem first_eq {p : List Nat → Bool} : ∀ {cs : List (List Nat)}, cs.any p = true → ∃ j, j < cs.length ∧ (∀ i, i < j → p (cs.getD i []) = false) ∧ p (cs.getD j []) = true
  | [], h => by cases h
  | c :: cs, h => by
    cases e : p c with
    | true => exact ⟨0, by simp, fun i hi => absurd hi (by omega), e⟩
    | false =>
      rw [List.any_cons, e, Bool.false_or] at h
      obtain ⟨j, a, b, d⟩ := first_eq h
      refine ⟨j + 1, by rw [List.length_cons]; omega, fun i hi => ?_, d⟩
      cases i with
      | zero => exact e
      | succ i => exact b i (by omega)
theorem ok_lclasses (T : Txt K mg) : FnOk P w K mg base CX0 1 T.a_law_classes T.d_law_classes ["_law_views", "_law_members", "_law_level"] spLClasses := by
  refine T.D_law_classes.F.ok sc_law_classes (fun vs H Q E h => ?_) (fun cdv A outer s H vs Q E hr h => ?_)
  · obtain ⟨v, m, lv, n, L, D, ms, rfl, _⟩ := h
    rfl
  · obtain ⟨v, m, lv, n, L, D, ms, rfl, hv, o, hl, em, hms, l100, q⟩ := h
    refine ⟨_, (pss_cons (ps_set (i := 3) sc_law_classes.nd rfl (.inl rfl) (pe_lst pa_nil))
      (pss_cons (ps_set (i := 4) sc_law_classes.nd rfl (.inl rfl) (pe_lst pa_nil))
      (pss_cons (ps_for PassesOwn.never rfl (pi_list (pv 1)) (pg_name (i := 5) sc_law_classes.nd rfl (.inl rfl)) (pss_one (ps_if (pt_cmpR (op_inD (hu65 hr)) (pe_ix ix_tup (pe_ix ix_tup (pv 0) (pv 5) (fun _ _ => rfl)) (pv 2) (fun _ _ => rfl)) (pv 4) (by rfl)) (pss_one (ps_expr (pe_bm PySem.F.plainAttrs_list PySem.F.slot_list_append PySem.F.type_list_append mt_append (pe_ix ix_list (pv 3) (pe_bm PySem.F.plainAttrs_list PySem.F.slot_list_index PySem.F.type_list_index (mt_indexD (hu65 hr)) (pv 4) (pa_cons (pe_ix ix_tup (pe_ix ix_tup (pv 0) (pv 5) (fun _ _ => rfl)) (pv 2) (fun _ _ => rfl)) pa_nil)) (fun _ _ => rfl)) (pa_cons (pv 5) pa_nil)))) (pss_cons (ps_expr (pe_bm PySem.F.plainAttrs_list PySem.F.slot_list_append PySem.F.type_list_append mt_append (pv 4) (pa_cons (pe_ix ix_tup (pe_ix ix_tup (pv 0) (pv 5) (fun _ _ => rfl)) (pv 2) (fun _ _ => rfl)) pa_nil)))
      (pss_one (ps_expr (pe_bm PySem.F.plainAttrs_list PySem.F.slot_list_append PySem.F.type_list_append mt_append (pv 3) (pa_cons (pe_lst (pa_cons (pv 5) pa_nil)) pa_nil))))))))
      (pss_one (ps_ret (pv 3)))))), ?_⟩
    obtain ⟨va, vus, rfl, eva, lvu, hat⟩ := hv.get o
    refine ⟨by show 0 ≤ sizeLine; decide, fun C nC => ?_⟩
    have k0 := same_upd (o := .lst []) (Same.refl H) nC
    have eC : upd H C (.lst []) C = some (.lst []) := upd_same
    refine ⟨by show 0 ≤ sizeLine; decide, fun X nX => ?_⟩
    have nX' : upd H C (.lst []) X = none := nX
    have nCX : C ≠ X := ne_of_none eC nX'
    have nXH : H X = none := none_same k0 nX'
    have k1 := same_upd (o := .lst []) k0 nX'
    refine ⟨_, rfl, m, rfl, ⟨_, SqL.of (k1 _ _ em)⟩, ?_⟩
    refine for_it (walk_list (K := K) (a := m) (xs := ms.map nV)) (fun i σ' H' => ∃ (as : List Addr) (xs : List V) (x5 : Option V), σ' = [some (.ref va), some (.ref m), some (nV lv), some (.ref C), some (.ref X), x5] ∧ Same H H' ∧ CsV H H' C (cls (eqs D lv) (ms.take i)) as ∧ H' X = some (.lst xs) ∧ X ∉ as ∧ LV (Td H) xs ((cls (eqs D lv) (ms.take i)).map fun c => dat D (c.headD 0) lv))
      ⟨[], [], none, rfl, k1, ⟨by rw [upd_ne nCX]; exact eC, rfl, (fun i a c e => by cases i <;> cases e), List.nodup_nil, (fun h => nomatch h), nC⟩, upd_same, (fun h => nomatch h), LV.nil⟩ ?_ ?_ ?_
    · rintro i σ' H' _ ⟨_, _, _, _, k, _⟩
      exact SqL.of (k _ _ em)
    · rintro i x σ' H1 H2 hi ⟨as, xs, x5, rfl, k, hc, eX, nXas, lvx⟩ ⟨rfl, hx⟩
      rw [List.length_map] at hi
      rw [nat_at hi] at hx
      have hx := Option.some.inj hx
      subst hx
      have hk : ms.getD i 0 < n := hms _ (getD_mem hi)
      have et := take_oneD 0 hi
      have co : CsOk n (ms.take i) (cls (eqs D lv) (ms.take i)) := cls_ok _
      have hml : ∀ k ∈ ms.take i, k < n := fun k h => hms k (List.mem_of_mem_take h)
      have lt : (ms.take i).length ≤ 100 := by rw [List.length_take]; omega
      have es : cls (eqs D lv) (ms.take (i + 1)) = put (eqs D lv) (cls (eqs D lv) (ms.take i)) (ms.getD i 0) := by rw [et, cls_snoc]
      generalize cls (eqs D lv) (ms.take (i + 1)) = cs' at es
      generalize cls (eqs D lv) (ms.take i) = cs at hc co es lvx
      generalize ms.getD i 0 = kk at hk es
      obtain ⟨ra, rus, erv, era, lru, hlv⟩ := hat kk hk
      obtain ⟨vx, evx, tvx⟩ := hlv lv hl
      have e2 : okD (dat D kk lv) := o.ok hk hl
      have lx := lvx.1
      rw [List.length_map] at lx
      have clen := co.1
      have lc := hc.len
      have hC := hc.eL
      have dX : Dp K H2 (.ref X) (.list (cs.map fun c => dat D (c.headD 0) lv)) := .lst (SqL.of eX) (TdAll.dp (TdAll.of (lvx.mono fun _ _ z => Td.to (TK.same k) z)))
      have sX : SeqAt.shaped (.list (cs.map fun c => dat D (c.headD 0) lv)) = true := okDs_sh fun d hd => by
        obtain ⟨c, hc, rfl⟩ := List.mem_map.mp hd
        obtain ⟨j, hj, e⟩ := mem_at hc
        have ⟨_, hm, _⟩ := head_mem co hj
        rw [getD_of e] at hm
        exact o.ok (hml _ hm) hl
      refine ⟨_, rfl, _, rfl, va, _, _, _, rfl, rfl, SqT.of (k _ _ eva), atI_nat erv, _, rfl, ra, _, _, _, rfl, rfl, SqT.of (k _ _ era), atI_nat evx, _, rfl, dat D kk lv, _, (Td.to (TK.same k) tvx).dp, dX, e2.sh, sX, ?_⟩
      have ea : ((cs.map fun c => dat D (c.headD 0) lv).any fun z => PyData.eqv z (dat D kk lv)) = cs.any fun c => eqs D lv (c.headD 0) kk := by rw [List.any_map]; rfl
      cases e : cs.any fun c => eqs D lv (c.headD 0) kk with
      | true =>
        refine ⟨true, by rw [ea, e], ?_⟩
        obtain ⟨j, hj, hb, he⟩ := first_eq e
        obtain ⟨a, eaj, ea2, eHa, na, naC⟩ := hc.get hj
        have lg := (co.2.1 _ (getD_mem (d := []) hj)).2.1
        have gj : ∀ q, q < cs.length → (cs.map fun c => dat D (c.headD 0) lv)[q]? = some (dat D ((cs.getD q []).headD 0) lv) := fun q hq => by
          rw [List.getElem?_map, List.getD_eq_getElem?_getD, List.getElem?_eq_getElem hq]; rfl
        refine ⟨_, rfl, _, rfl, .inl ⟨rfl, _, .inl (.inl eX)⟩, _, rfl, _, rfl, va, _, _, _, rfl, rfl, SqT.of (k _ _ eva), atI_nat erv, _, rfl, ra, _, _, _, rfl, rfl, SqT.of (k _ _ era), atI_nat evx, ?_⟩
        refine ⟨X, _, dat D kk lv, _, j, _, rfl, rfl, dX, (Td.to (TK.same k) tvx).dp, sX, e2.sh, gj j hj, he, fun q z' hq hz => ?_, ?_⟩
        · rw [gj q (by omega)] at hz
          have hz := Option.some.inj hz
          rw [← hz]
          exact hb q hq
        refine ⟨C, _, _, _, rfl, rfl, SqL.of hC, atI_nat ea2, .inl ⟨rfl, _, .inl (.inl eHa)⟩, _, rfl, a, _, _, rfl, rfl, eHa, szN (by rw [List.length_map]; omega), ?_⟩
        have e1 : (cs.getD j []).map nV ++ [nV kk] = (cs.getD j [] ++ [kk]).map nV := by rw [List.map_append]; rfl
        rw [e1]
        have h5 := hc.put (c := cs.getD j [] ++ [kk]) eaj
        have e3 : cs.set j (cs.getD j [] ++ [kk]) = cs' := by rw [es, put_at hj hb he]
        have e4 : cs'.map (fun c => dat D (c.headD 0) lv) = cs.map fun c => dat D (c.headD 0) lv := by
          rw [← e3]
          refine List.ext_getElem? fun q => ?_
          rw [List.getElem?_map, List.getElem?_map, List.getElem?_set]
          by_cases z : j = q
          · subst z
            rw [if_pos rfl, if_pos hj, List.getElem?_eq_getElem hj]
            have ⟨_, _, hp⟩ := head_mem co hj
            have e5 : cs.getD j [] = cs[j] := by rw [List.getD_eq_getElem?_getD, List.getElem?_eq_getElem hj]; rfl
            rw [e5] at hp ⊢
            generalize cs[j] = c0 at hp ⊢
            cases c0 with
            | nil => cases hp
            | cons y r => rfl
          · rw [if_neg z]
        rw [e3] at h5
        refine ⟨as, xs, _, rfl, same_mut k na, h5, ?_, nXas, by rw [e4]; exact lvx⟩
        rw [upd_ne (fun z => nXas (by rw [z]; exact List.mem_of_getElem? eaj))]; exact eX
      | false =>
        refine ⟨false, by rw [ea, e], ?_⟩
        have hno : ∀ i, i < cs.length → eqs D lv ((cs.getD i []).headD 0) kk = false := fun i hi => by
          have := List.any_eq_false.mp e _ (getD_mem (d := []) hi)
          cases z : eqs D lv ((cs.getD i []).headD 0) kk with
          | false => rfl
          | true => exact absurd z this
        refine ⟨_, rfl, .inl ⟨rfl, _, .inl (.inl eX)⟩, _, rfl, _, rfl, va, _, _, _, rfl, rfl, SqT.of (k _ _ eva), atI_nat erv, _, rfl, ra, _, _, _, rfl, rfl, SqT.of (k _ _ era), atI_nat evx, X, xs, _, rfl, rfl, eX, szN (by omega), ?_⟩
        have k3 : Same H (upd H2 X (.lst (xs ++ [vx]))) := same_mut k nXH
        have hc3 : CsV H (upd H2 X (.lst (xs ++ [vx]))) C cs as := by
          refine ⟨by rw [upd_ne nCX]; exact hC, lc, fun i a c e1 e2 => ?_, hc.nd, hc.nL, hc.n0⟩
          have ⟨x, y⟩ := hc.ea i a c e1 e2
          exact ⟨by rw [upd_ne (fun z : a = X => nXas (by rw [← z]; exact List.mem_of_getElem? e1))]; exact x, y⟩
        have eX3 : upd H2 X (.lst (xs ++ [vx])) X = some (.lst (xs ++ [vx])) := upd_same
        generalize upd H2 X (.lst (xs ++ [vx])) = H3 at k3 hc3 eX3
        refine ⟨_, rfl, .inl ⟨rfl, _, .inl (.inl hc3.eL)⟩, _, rfl, by show 1 ≤ sizeLine; decide, fun p np => ?_⟩
        have h4 := hc3.same (same_upd (o := .lst [nV kk]) (Same.refl H3) np)
        have npas : p ∉ as := fun z => by
          obtain ⟨i, hi, e⟩ := mem_at z
          have e2 : cs[i]? = some (cs[i]'(by omega)) := List.getElem?_eq_getElem _
          have := (hc3.ea i p _ e e2).1
          rw [np] at this; cases this
        have nCp : C ≠ p := ne_of_none hc3.eL np
        have nXp : X ≠ p := ne_of_none eX3 np
        refine ⟨C, _, _, rfl, rfl, h4.eL, szN (by rw [List.length_map]; omega), ?_⟩
        have e3 : cs' = cs ++ [[kk]] := by rw [es, put_new hno]
        rw [e3]
        refine ⟨as ++ [p], xs ++ [vx], _, rfl, same_mut (same_upd k3 np) hc.n0, h4.snoc upd_same npas nCp.symm (none_same k3 np), ?_, ?_, ?_⟩
        · rw [upd_ne nCX.symm, upd_ne nXp]; exact eX3
        · intro z
          rcases List.mem_append.mp z with z | z
          · exact nXas z
          · exact nXp (List.mem_singleton.mp z)
        · rw [List.map_append]
          exact lvx.snoc tvx
    · rintro σ' H1 ⟨as, xs, x5, rfl, k, hc, eX, nXas, lvx⟩
      rw [List.length_map, List.take_length] at hc
      exact ⟨_, rfl, q H1 C as k hc⟩
end
end Vf

set_option Elab.async false
set_option linter.all false
set_option maxRecDepth 100000
set_option maxHeartbeats 4000000
namespace Vf
open PySem PySem.Spec PyProof.Rows L2 TL
/-! ### the finest plan, by a stack -/
abbrev Itm := Nat × List Nat
def wtI (x : Itm) : Nat := x.2.length * (x.1 + 1) + 1
def wtS (W : List Itm) : Nat := (W.map wtI).sum
def goes (cl : Nat → List Nat → List (List Nat)) (un : List Nat → Bool) (x : Itm) : Bool := decide (0 < x.1) && (cl (x.1 - 1) x.2).all fun c => !un c
def finF (cl : Nat → List Nat → List (List Nat)) (un : List Nat → Bool) : Nat → List Itm → List Nat → List Nat
  | 0, _, pl => pl
  | f + 1, W, pl => match W.getLast? with
    | none => pl
    | some x => if goes cl un x = true then finF cl un f (W.dropLast ++ (cl (x.1 - 1) x.2).map fun c => (x.1 - 1, c)) pl
      else finF cl un f W.dropLast (x.2.foldl (fun p k => p.set k x.1) pl)
theorem finF_nil (cl : Nat → List Nat → List (List Nat)) (un : List Nat → Bool) (f : Nat) (pl : List Nat) : finF cl un f [] pl = pl := by cases f <;> rfl
theorem finF_snoc (cl : Nat → List Nat → List (List Nat)) (un : List Nat → Bool) (f : Nat) (W : List Itm) (x : Itm) (pl : List Nat) : finF cl un (f + 1) (W ++ [x]) pl =
    if goes cl un x = true then finF cl un f (W ++ (cl (x.1 - 1) x.2).map fun c => (x.1 - 1, c)) pl else finF cl un f W (x.2.foldl (fun p k => p.set k x.1) pl) := by
  simp only [finF, List.getLast?_concat, List.dropLast_concat]
theorem wtS_app (W U : List Itm) : wtS (W ++ U) = wtS W + wtS U := by unfold wtS; rw [List.map_append, List.sum_append]
theorem wtS_len (W : List Itm) : W.length ≤ wtS W := by
  induction W with
  | nil => exact Nat.zero_le _
  | cons x W ih =>
    show W.length + 1 ≤ wtI x + wtS W
    unfold wtI
    omega
theorem wt_parts {eq : Nat → Nat → Bool} {lv : Nat} {ms : List Nat} : wtS ((cls eq ms).map fun c => (lv, c)) ≤ ms.length * (lv + 1) + ms.length := by
  have co : CsOk 0 ms (cls eq ms) := cls_ok _
  obtain ⟨h1, h2, h3⟩ := co
  have : ∀ cs : List (List Nat), wtS (cs.map fun c => (lv, c)) = (cs.map List.length).sum * (lv + 1) + cs.length := by
    intro cs
    induction cs with
    | nil => simp [wtS]
    | cons c cs ih =>
      have e : wtS ((c :: cs).map fun c => (lv, c)) = (c.length * (lv + 1) + 1) + wtS (cs.map fun c => (lv, c)) := rfl
      rw [e, ih, List.map_cons, List.sum_cons, List.length_cons, Nat.add_mul]
      omega
  rw [this, h3]
  omega
/-- what holds of what waits -/
def ItOk (n L : Nat) (x : Itm) : Prop := x.1 < L ∧ (∀ k ∈ x.2, k < n) ∧ x.2.length ≤ 24
theorem ItOk.parts {n L : Nat} {eq : Nat → Nat → Bool} {lv : Nat} {ms : List Nat} (h : ItOk n L (lv, ms)) (hl : 0 < lv) : ∀ x ∈ (cls eq ms).map (fun c => (lv - 1, c)), ItOk n L x := fun x hx => by
  obtain ⟨c, hc, rfl⟩ := List.mem_map.mp hx
  have co : CsOk 0 ms (cls eq ms) := cls_ok _
  have ⟨_, b, d⟩ := co.2.1 c hc
  obtain ⟨h1, h2, h3⟩ := h
  have h1 : lv < L := h1
  have h3 : ms.length ≤ 24 := h3
  exact ⟨by show lv - 1 < L; omega, fun k hk => h2 k (d k hk), Nat.le_trans b h3⟩
section
variable {P : Program} {w : World} {K : PySem.W.Frag} {mg : Str → Option Value} {base : Heap}
def tParts : TE := fun σ H Q => ∃ (v : V) (lv : Nat) (m : Addr) (n L : Nat) (D : List (List PyData)) (ms : List Nat), σ[4]? = some (some (nV lv)) ∧ σ[1]? = some (some v) ∧ σ[5]? = some (some (.ref m)) ∧ VwR H v D ∧ VwOk n L D ∧ lv < L ∧ H m = some (.tup (ms.map nV)) ∧ (∀ k ∈ ms, k < n) ∧ ms.length ≤ 100 ∧
  ∀ (H' : Hp) (c : V), Same H H' → TupR NsR H' c (if 0 < lv then cls (eqs D (lv - 1)) ms else []) → Q c H'
def spFinest : Sp := fun vs H Q _ => ∃ (sc v : V) (n L : Nat) (F C : List (List Nat)) (W : List Wt) (D : List (List PyData)), vs = [sc, v] ∧ ScR H sc F C W ∧ ScOk n F C W ∧ VwR H v D ∧ VwOk n L D ∧ 1 ≤ L ∧ 1 ≤ n ∧ L ≤ 100 ∧
  ∀ H' p, Same H H' → NsR H' p (finF (fun lv ms => cls (eqs D lv) ms) (unsB F C W) (n * L + 1) [(L - 1, List.range n)] (List.replicate n 0)) → Q p H'
def FnI (H : Hp) (sc : V) (va p Wt : Addr) (n L : Nat) (cl : Nat → List Nat → List (List Nat)) (un : List Nat → Bool) (r : List Nat) (m : Nat) (σ' : L2.St) (H' : Hp) : Prop :=
  ∃ (W : List Itm) (pl : List Nat) (us : List V) (x4 x5 x6 x7 x8 : Option V), σ' = [some sc, some (.ref va), some (.ref p), some (.ref Wt), x4, x5, x6, x7, x8] ∧ Same H H' ∧ H' p = some (.lst (pl.map nV)) ∧ pl.length = n ∧ H' Wt = some (.lst us) ∧ LV (PairR natR NsR H') us W ∧ (∀ x ∈ W, ItOk n L x) ∧ wtS W ≤ m ∧ m ≤ n * L + 1 ∧ finF cl un m W pl = r
theorem ixN_nat {n k : Nat} (h : k < n) : ixN n (k : Int) = some k := by
  unfold ixN
  rw [if_pos (by omega), if_pos (by omega), Int.toNat_natCast]
theorem fold_len (ms : List Nat) (lv : Nat) : ∀ pl : List Nat, (ms.foldl (fun p k => p.set k lv) pl).length = pl.length := by
  induction ms with
  | nil => intro pl; rfl
  | cons k ms ih => intro pl; rw [List.foldl_cons, ih, List.length_set]
theorem map_set (xs : List Nat) (k v : Nat) : (xs.map nV).set k (nV v) = (xs.set k v).map nV := by
  refine List.ext_getElem? fun i => ?_
  rw [List.getElem?_set, List.getElem?_map, List.getElem?_map, List.getElem?_set, List.length_map]
  split
  · split <;> rfl
  · rfl
theorem rep0 (n : Nat) : (List.replicate n [V.int 0]).flatten = (List.replicate n 0).map nV := by
  induction n with
  | zero => rfl
  | succ n ih => rw [List.replicate_succ, List.flatten_cons, ih, List.replicate_succ, List.map_cons]; rfl
theorem pop_last {us : List V} {W : List Itm} {R : V → Itm → Prop} (h : LV R us W) (hne : W ≠ []) : ∃ W0 x us0 u, W = W0 ++ [x] ∧ us = us0 ++ [u] ∧ us[us.length - 1]? = some u ∧ us.dropLast = us0 ∧ R u x ∧ LV R us0 W0 := by
  have e1 := (List.dropLast_concat_getLast hne).symm
  generalize W.dropLast = W0 at e1
  generalize W.getLast hne = x at e1
  subst e1
  have hl := h.1
  rw [List.length_append] at hl
  have hl : us.length = W0.length + 1 := hl
  obtain ⟨u, eu, hu⟩ := h.2 W0.length x (by rw [List.getElem?_append_right (Nat.le_refl _), Nat.sub_self]; rfl)
  have une : us ≠ [] := fun z => by rw [z] at hl; cases hl
  have e2 := (List.dropLast_concat_getLast une).symm
  have e3 : us.getLast une = u := by
    rw [List.getLast_eq_getElem]
    have := (List.getElem?_eq_some_iff.mp eu).2
    rw [← this]
    congr 1
    omega
  rw [e3] at e2
  refine ⟨W0, x, us.dropLast, u, rfl, e2, by rw [hl, Nat.add_sub_cancel]; exact eu, rfl, hu, by rw [List.length_dropLast]; omega, fun i r e => ?_⟩
  have hi := (List.getElem?_eq_some_iff.mp e).1
  obtain ⟨y, ey, hy⟩ := h.2 i r (by rw [List.getElem?_append_left hi]; exact e)
  refine ⟨y, ?_, hy⟩
  rw [List.getElem?_dropLast, if_pos (by omega)]; exact ey
theorem ok_finest (T : Txt K mg) : FnOk P w K mg base CX0 3 T.a_finest T.d_finest ["scene", "views"] spFinest := by
  have G_classes_at : FnOk P w K mg base CX0 1 T.a_classes_at T.d_classes_at ["views", "level", "members"] spClassesAt := ok_classes_at T
  have G_is_safe : FnOk P w K mg base CX0 2 T.a_is_safe T.d_is_safe ["scene", "members"] spSafe := ok_safe T
  refine T.D_finest.F.ok sc_finest (fun vs H Q E h => ?_) (fun cdv A outer s H vs Q E hr h => ?_)
  · obtain ⟨sc, v, n, L, F, C, W, D, rfl, _⟩ := h
    rfl
  · obtain ⟨sc, v, n, L, F, C, W, D, rfl, hsc, osc, hv, o, L1, n1, L100, q⟩ := h
    refine ⟨_, (pss_cons (ps_set (i := 2) sc_finest.nd rfl (.inl rfl) (pe_op op_rep (pe_lst (pa_cons pe_int pa_nil)) (pe_callB call_len_seq (by rfl) T.n_len PySem.boot_len (pa_cons (pv 1) pa_nil))))
      (pss_cons (ps_set (i := 3) sc_finest.nd rfl (.inl rfl) (pe_lst (pa_cons (pe_tup (pa_cons (pe_op op_sub (pe_callB call_len_seq (by rfl) T.n_len PySem.boot_len (pa_cons (pe_ix ix_tup (pv 1) pe_int (fun _ _ => rfl)) pa_nil)) pe_int) (pa_cons (pe_tupRg (by rfl) (by rfl) T.n_tuple (prg_1 (by rfl) T.n_range (pe_callB call_len_seq (by rfl) T.n_len PySem.boot_len (pa_cons (pv 1) pa_nil)))) pa_nil))) pa_nil)))
      (pss_cons (ps_while PassesOwn.never (pt_cmpR op_gt (pe_callB call_len_seq (by rfl) T.n_len PySem.boot_len (pa_cons (pv 3) pa_nil)) pe_int (nomark _)) (pss_cons (ps_asg (pe_bm0 PySem.F.plainAttrs_list PySem.F.slot_list_pop PySem.F.type_list_pop mt_pop (pv 3)) (pg_tup (by rfl) (pgs_cons (pg_name (i := 4) sc_finest.nd rfl (.inr rfl)) (pgs_cons (pg_name (i := 5) sc_finest.nd rfl (.inl rfl)) pgs_nil))))
      (pss_cons (ps_set (i := 6) sc_finest.nd rfl (.inl rfl) (PE.to (t' := tParts) (pe_ifExp (pt_cmpR op_gt (pv 4) pe_int (nomark _)) (pe_call G_classes_at (hr.mono (by decide)) (by rfl) T.D_classes_at.G T.D_classes_at.F.kp T.D_classes_at.B .nil pass0 (pa_cons (pv 1) (pa_cons (pe_op op_sub (pv 4) pe_int) (pa_cons (pv 5) pa_nil)))) (pe_tup pa_nil)) (fun σ H Q h => by
      obtain ⟨v, lv, m, n, L, D, ms, e4, e1, e5, hv, o, hl, em, hms, l100, q⟩ := h
      refine ⟨_, e4, _, _, rfl, rfl, _, rfl, ite2 (fun c => ?_) (fun c => ?_)⟩
      · have c : (0 : Int) < (lv : Int) := of_decide_eq_true c
        have el : V.int ((lv : Int) - 1) = nV (lv - 1) := congrArg V.int (by omega)
        refine ⟨_, e1, _, e4, _, _, rfl, rfl, _, e5, v, lv - 1, m, n, L, D, ms, ?_, hv, o, by omega, em, hms, l100, fun H1 c1 k1 hc => ?_⟩
        · rw [← el]; rfl
        · exact q H1 c1 k1 (by rw [if_pos (by omega)]; exact hc)
      · have c : ¬ (0 : Int) < (lv : Int) := fun z => c (decide_eq_true z)
        refine ⟨by show 0 ≤ sizeLine; decide, fun t nt => ?_⟩
        refine q _ _ (same_upd (Same.refl _) nt) ?_
        rw [if_neg (by omega)]
        exact ⟨t, [], rfl, upd_same, LV.nil⟩)))
      (pss_one (ps_if (PW.pt (pw_and (pt_cmpR op_gt (pv 4) pe_int (nomark _)) (pw_and1 (pt_val (pe_callB (cr_all (by rfl)) (by rfl) T.n_all (by decide +kernel) (pa_cons (pe_lc (own := [("part", 8)]) (g := gName 8) (tt := tYes) rfl sc_finest.nd (pi_tup (pv 6)) (blkOk_by (own := [("part", 8)]) (N := ["scene", "views", "plan", "waiting", "level", "members", "parts", "k", "part"]) (sc := (defScope s_finest)) (by decide +kernel)) (fun _ _ _ _ _ => (pg_name (i := 8) sc_finest.nd rfl (.inl rfl))) (fun _ _ _ _ _ => pts_nil) (fun _ _ _ _ _ => (pe_call G_is_safe (hr.mono (by decide)) (by rfl) T.D_is_safe.G T.D_is_safe.F.kp T.D_is_safe.B .nil pass0 (pa_cons (pv 0) (pa_cons (pv 8) pa_nil))))) pa_nil)))))) (pss_one (ps_expr (pe_bm PySem.F.plainAttrs_list PySem.F.slot_list_extend PySem.F.type_list_extend mt_extend (pv 3) (pa_cons (pe_lc (own := [("part", 8)]) (g := gName 8) (tt := tYes) rfl sc_finest.nd (pi_tup (pv 6)) (blkOk_by (own := [("part", 8)]) (N := ["scene", "views", "plan", "waiting", "level", "members", "parts", "k", "part"]) (sc := (defScope s_finest)) (by decide +kernel)) (fun _ _ _ _ _ => (pg_name (i := 8) sc_finest.nd rfl (.inl rfl))) (fun _ _ _ _ _ => pts_nil) (fun _ _ _ _ _ => (pe_tup (pa_cons (pe_op op_sub (pv 4) pe_int) (pa_cons (pv 8) pa_nil))))) pa_nil)))) (pss_one (ps_for PassesOwn.never rfl (pi_tup (pv 5)) (pg_name (i := 7) sc_finest.nd rfl (.inl rfl)) (pss_one (ps_asg (pv 4) (pg_sub (pv 2) (pv 7) set_list))))))))))
      (pss_one (ps_ret (pe_callTy call_tuple_of (by rfl) T.n_tuple (by decide +kernel) (pa_cons (pv 2) pa_nil))))))), ?_⟩
    have nn := osc.nn
    obtain ⟨va, vus, rfl, eva, lvu, hat⟩ := hv.get o
    obtain ⟨r0, r0s, er0, er02, lr0, _⟩ := hat 0 (by omega)
    refine ⟨by show 1 ≤ sizeLine; decide, fun Z nZ => ?_⟩
    have kZ := same_upd (o := .lst [V.int 0]) (Same.refl H) nZ
    have eZ : upd H Z (.lst [V.int 0]) Z = some (.lst [V.int 0]) := upd_same
    generalize upd H Z (.lst [V.int 0]) = H1 at kZ eZ
    refine ⟨_, rfl, va, _, rfl, .inr (SqT.of (kZ _ _ eva)), Z, (n : Int), _, rfl, by rw [lvu], eZ, by omega, by omega, by rw [toNat_k]; exact Nat.le_of_lt (szN (by show 1 * n < 100000; omega)), fun p np => ?_⟩
    rw [toNat_k, rep0]
    have kp := same_upd (o := .lst ((List.replicate n 0).map nV)) kZ np
    have ep : upd H1 p (.lst ((List.replicate n 0).map nV)) p = some (.lst ((List.replicate n 0).map nV)) := upd_same
    have npH := none_same kZ np
    generalize upd H1 p (.lst ((List.replicate n 0).map nV)) = H2 at kp ep
    refine ⟨_, rfl, va, _, _, _, rfl, rfl, SqT.of (kp _ _ eva), atI_nat (j := 0) er0, r0, _, rfl, .inr (SqT.of (kp _ _ er02)), _, _, rfl, rfl, _, rfl, va, _, rfl, .inr (SqT.of (kp _ _ eva)), (n : Int), by rw [lvu], RgOk.of_le (by omega) (by omega) (by omega) (by omega), fun b nb => ?_⟩
    refine ⟨by show 2 ≤ sizeLine; decide, fun t nt => ⟨by show 1 ≤ sizeLine; decide, fun Wt nW => ?_⟩⟩
    have er : rgV 0 (n : Int) = (List.range n).map nV := rgV_nats n
    have k3 := same_upd (o := .tup (rgV 0 (n : Int))) kp nb
    have ep3 : upd H2 b (.tup (rgV 0 (n : Int))) p = some (.lst ((List.replicate n 0).map nV)) := by rw [upd_ne (ne_of_none ep nb)]; exact ep
    have eb3 : NsR (upd H2 b (.tup (rgV 0 (n : Int)))) (.ref b) (List.range n) := ⟨b, rfl, by rw [upd_same, er]⟩
    generalize upd H2 b (.tup (rgV 0 (n : Int))) = H3 at k3 ep3 eb3 nt nW
    have e5 : V.int ((r0s.length : Int) - 1) = nV (L - 1) := congrArg V.int (by omega)
    have k4 := same_upd (o := .tup [V.int ((r0s.length : Int) - 1), V.ref b]) k3 nt
    have ep4 : upd H3 t (.tup [V.int ((r0s.length : Int) - 1), V.ref b]) p = some (.lst ((List.replicate n 0).map nV)) := by rw [upd_ne (ne_of_none ep3 nt)]; exact ep3
    have et4 : PairR natR NsR (upd H3 t (.tup [V.int ((r0s.length : Int) - 1), V.ref b])) (.ref t) (L - 1, List.range n) := ⟨t, _, _, rfl, upd_same, e5, NsR.mn.to eb3 (TK.new (TK.refl _) nt)⟩
    have nW4 : upd H3 t (.tup [V.int ((r0s.length : Int) - 1), V.ref b]) Wt = none := nW
    generalize upd H3 t (.tup [V.int ((r0s.length : Int) - 1), V.ref b]) = H4 at k4 ep4 et4 nW4
    have k5 := same_upd (o := .lst [V.ref t]) k4 nW4
    have nWp : p ≠ Wt := ne_of_none ep4 nW4
    have ep5 : upd H4 Wt (.lst [V.ref t]) p = some (.lst ((List.replicate n 0).map nV)) := by rw [upd_ne nWp]; exact ep4
    have lv5 : LV (PairR natR NsR (upd H4 Wt (.lst [V.ref t]))) [V.ref t] [(L - 1, List.range n)] := LV.nil.snoc (vs := []) (rs := []) ((PairR.mn natR_mn NsR.mn).to et4 (TK.new (TK.refl _) nW4))
    have eW5 : upd H4 Wt (.lst [V.ref t]) Wt = some (.lst [V.ref t]) := upd_same
    have nWH := none_same k4 nW4
    have w0 : wtS [(L - 1, List.range n)] ≤ n * L + 1 := by
      show (List.range n).length * (L - 1 + 1) + 1 + 0 ≤ _
      rw [List.length_range, Nat.sub_add_cancel L1]
      exact Nat.le_refl _
    have i0 : ∀ x ∈ [((L - 1, List.range n) : Itm)], ItOk n L x := fun x hx => by
      rw [List.mem_singleton.mp hx]
      exact ⟨by show L - 1 < L; omega, fun k hk => List.mem_range.mp hk, by show (List.range n).length ≤ 24; rw [List.length_range]; omega⟩
    generalize hres : finF (fun lv ms => cls (eqs D lv) ms) (unsB F C W) (n * L + 1) [(L - 1, List.range n)] (List.replicate n 0) = res at q
    refine ⟨FnI H sc va p Wt n L (fun lv ms => cls (eqs D lv) ms) (unsB F C W) res, ⟨n * L + 1, [(L - 1, List.range n)], List.replicate n 0, [V.ref t], none, none, none, none, none, rfl, k5, ep5, List.length_replicate .., eW5, lv5, i0, w0, Nat.le_refl _, hres⟩, fun m σ' H' hW => ?_⟩
    obtain ⟨W1, pl, us, x4, x5, x6, x7, x8, rfl, k, epl, lpl, eW, lvs, hW, hwt, hmb, hr0⟩ := hW
    refine ⟨_, rfl, Wt, _, rfl, .inl (SqL.of eW), _, _, rfl, rfl, ?_⟩
    by_cases hne : W1 = []
    · subst hne
      have : us = [] := List.length_eq_zero_iff.mp lvs.1
      subst this
      refine ⟨false, bFa (by decide), ?_⟩
      rw [finF_nil] at hr0
      refine ⟨_, rfl, p, _, rfl, .inl ⟨SqL.of epl, fun b nb => ?_⟩⟩
      exact q _ _ (same_upd k nb) (by rw [← hr0]; exact NsR.new)
    · obtain ⟨W0, ⟨lv, ms⟩, us0, u, rfl, eus, elast, edrop, hu, lv0⟩ := pop_last lvs hne
      have hlen : (0 : Int) < (us.length : Int) := by rw [eus, List.length_append]; show (0 : Int) < ((us0.length + 1 : Nat) : Int); omega
      refine ⟨true, bTr hlen, ?_⟩
      obtain ⟨h1, hms, hml⟩ := hW (lv, ms) (List.mem_append_right _ (List.mem_singleton.mpr rfl))
      have h1 : lv < L := h1
      have hml : ms.length ≤ 24 := hml
      have hw1 : wtS [((lv, ms) : Itm)] = ms.length * (lv + 1) + 1 := rfl
      rw [wtS_app, hw1] at hwt
      obtain ⟨m', rfl⟩ : ∃ m', m = m' + 1 := ⟨m - 1, by omega⟩
      refine ⟨FnI H sc va p Wt n L (fun lv ms => cls (eqs D lv) ms) (unsB F C W) res m', fun σ' H1 hN => ⟨m', by omega, hN⟩, ?_⟩
      obtain ⟨b1, _, _, rfl, eb1, rfl, mm, rfl, emm⟩ := hu
      have us0l : us0.length = W0.length := lv0.1
      have t3 : TK H' (upd H' Wt (.lst us0)) := TK.mut (TK.refl _) eW
      have k3' := same_mut (o := .lst us0) k nWH
      have ep3' : upd H' Wt (.lst us0) p = some (.lst (pl.map nV)) := by rw [upd_ne nWp]; exact epl
      have eW3 : upd H' Wt (.lst us0) Wt = some (.lst us0) := upd_same
      have lv0 : LV (PairR natR NsR (upd H' Wt (.lst us0))) us0 W0 := lv0.mono fun _ _ z => (PairR.mn natR_mn NsR.mn).to z t3
      have eb3 := t3 _ _ eb1
      have emm0 := t3 _ _ emm
      refine ⟨_, rfl, .inl ⟨rfl, _, .inl (.inl eW)⟩, Wt, us, _, rfl, rfl, eW, elast, ?_⟩
      rw [edrop]
      generalize upd H' Wt (.lst us0) = H0 at k3' ep3' eW3 lv0 eb3 emm0
      refine ⟨b1, _, rfl, SqT.of eb3, rfl, _, _, rfl, _, _, rfl, rfl, ?_⟩
      refine ⟨.ref va, lv, mm, n, L, D, ms, rfl, rfl, rfl, VwR.mn.to hv (TK.same k3'), o, h1, emm0, hms, by omega, fun H5 c5 k5 hc5 => ?_⟩
      obtain ⟨pa, pas, rfl, epa, lpa⟩ := hc5
      have kk := k3'.trans k5
      have ep5 := k5 _ _ ep3'
      have eW5 := k5 _ _ eW3
      have emm := k5 _ _ emm0
      refine ⟨_, rfl, _, _, rfl, rfl, ?_⟩
      by_cases c : 0 < lv
      · refine ⟨true, bTr (show (0 : Int) < (lv : Int) by omega), ?_⟩
        rw [if_pos c] at lpa
        have co : CsOk n ms (cls (eqs D (lv - 1)) ms) := cls_ok _
        have gg : goes (fun lv ms => cls (eqs D lv) ms) (unsB F C W) (lv, ms) = (cls (eqs D (lv - 1)) ms).all fun c => !unsB F C W c := by
          unfold goes
          show (decide (0 < lv) && _) = _
          rw [decide_eq_true c, Bool.true_and]
        have fs : finF (fun lv ms => cls (eqs D lv) ms) (unsB F C W) (m' + 1) (W0 ++ [(lv, ms)]) pl = if ((cls (eqs D (lv - 1)) ms).all fun c => !unsB F C W c) = true then finF (fun lv ms => cls (eqs D lv) ms) (unsB F C W) m' (W0 ++ (cls (eqs D (lv - 1)) ms).map fun c => (lv - 1, c)) pl
            else finF (fun lv ms => cls (eqs D lv) ms) (unsB F C W) m' W0 (ms.foldl (fun p k => p.set k lv) pl) := by rw [finF_snoc, gg]
        have wp : wtS ((cls (eqs D (lv - 1)) ms).map fun c => (lv - 1, c)) ≤ ms.length * (lv - 1 + 1) + ms.length := wt_parts
        have ip : ∀ x ∈ (cls (eqs D (lv - 1)) ms).map (fun c => (lv - 1, c)), ItOk n L x := ItOk.parts ⟨h1, hms, hml⟩ c
        have hcm : ∀ c' ∈ cls (eqs D (lv - 1)) ms, (∀ k ∈ c', k < n) ∧ c'.length < 64 := fun c' hc' => by
          have ⟨_, b2, d2⟩ := co.2.1 c' hc'
          exact ⟨fun k hk => hms k (d2 k hk), by omega⟩
        generalize cls (eqs D (lv - 1)) ms = cs at lpa co gg fs wp ip hcm
        have lcs := lpa.1
        have cl1 := co.1
        refine ⟨_, rfl, pa, rfl, ⟨_, SqT.of epa⟩, fun D2 nD2 => ?_⟩
        refine lc_it (walk_tup (K := K) (a := pa) (xs := pas)) (fun i H' => H' D2 = some (.lst ((cs.take i).map fun c => V.bl (!unsB F C W c))) ∧ Same H5 H') ⟨upd_same, same_upd (Same.refl H5) nD2⟩ ?_ ?_ ?_
        · rintro i H' _ ⟨_, k⟩
          exact SqT.of (k _ _ epa)
        · rintro i x H7 H8 hi ⟨eD2, k7⟩ ⟨rfl, hx⟩
          obtain ⟨cx, ecx, ca, rfl, eca⟩ := lpa.at hx
          have ⟨a2, b2⟩ := hcm cx (List.mem_of_getElem? ecx)
          refine ⟨rfl, ?_⟩
          refine ⟨_, rfl, _, rfl, sc, ca, n, F, C, W, cx, rfl, hsc.mn (TK.same (kk.trans k7)), osc, k7 _ _ eca, a2, b2, fun H9 k9 => ?_⟩
          refine ⟨_, k9 _ _ eD2, szN (by rw [List.length_map, List.length_take]; omega), ?_, same_mut (k7.trans k9) nD2⟩
          rw [upd_same, take_one ecx, List.map_append]; rfl
        · rintro H7 ⟨eD2, k7⟩
          rw [List.take_of_length_le (by omega)] at eD2
          refine ⟨D2, cs.map fun c => !unsB F C W c, rfl, .inl (.inl (by rw [eD2, List.map_map]; rfl)), ?_⟩
          have ea : (cs.map fun c => !unsB F C W c).all id = cs.all fun c => !unsB F C W c := by rw [List.all_map]; rfl
          have kk7 := kk.trans k7
          cases e : cs.all fun c => !unsB F C W c with
          | true =>
            refine ⟨true, by rw [ea, e], ?_⟩
            have eW7 := k7 _ _ eW5
            refine ⟨_, rfl, .inl ⟨rfl, _, .inl (.inl eW7)⟩, ?_⟩
            refine ⟨_, rfl, pa, rfl, ⟨_, SqT.of (k7 _ _ epa)⟩, fun D3 nD3 => ?_⟩
            have lpa7 : LV (NsR H7) pas cs := lpa.mono fun _ _ z => NsR.mn.to z (TK.same k7)
            have ele : V.int ((lv : Int) - 1) = nV (lv - 1) := congrArg V.int (by omega)
            refine lc_it (walk_tup (K := K) (a := pa) (xs := pas)) (fun i H' => ∃ zs, H' D3 = some (.lst zs) ∧ LV (PairR natR NsR H') zs ((cs.take i).map fun c => (lv - 1, c)) ∧ Same H7 H') ⟨[], upd_same, LV.nil, same_upd (Same.refl H7) nD3⟩ ?_ ?_ ?_
            · rintro i H' _ ⟨_, _, _, k⟩
              exact SqT.of (k _ _ (k7 _ _ epa))
            · rintro i x H8 H9 hi ⟨zs, eD3, lz, k8⟩ ⟨rfl, hx⟩
              obtain ⟨cx, ecx, hcx⟩ := lpa7.at hx
              refine ⟨rfl, ?_⟩
              refine ⟨_, rfl, _, _, rfl, rfl, _, rfl, by show 2 ≤ sizeLine; decide, fun t nt => ?_⟩
              have lzl := lz.1
              rw [List.length_map, List.length_take] at lzl
              have eD3t : upd H9 t (.tup [V.int ((lv : Int) - 1), x]) D3 = some (.lst zs) := by rw [upd_ne (ne_of_none eD3 nt)]; exact eD3
              have lzt : LV (PairR natR NsR (upd H9 t (.tup [V.int ((lv : Int) - 1), x]))) zs ((cs.take i).map fun c => (lv - 1, c)) := lz.mono fun _ _ z => (PairR.mn natR_mn NsR.mn).to z (TK.new (TK.refl _) nt)
              have ett : PairR natR NsR (upd H9 t (.tup [V.int ((lv : Int) - 1), x])) (.ref t) (lv - 1, cx) := ⟨t, _, _, rfl, upd_same, ele, NsR.mn.to hcx ((TK.same k8).new nt)⟩
              refine ⟨zs, eD3t, szN (by omega), zs ++ [.ref t], upd_same, ?_, same_mut (same_upd k8 nt) nD3⟩
              rw [take_one ecx, List.map_append]
              exact (lzt.snoc ett).mono fun _ _ z => (PairR.mn natR_mn NsR.mn).to z (TK.mut (TK.refl _) eD3t)
            · rintro H8 ⟨zs, eD3, lz, k8⟩
              rw [List.take_of_length_le (by omega)] at lz
              have lzl := lz.1
              rw [List.length_map] at lzl
              have eW8 := k8 _ _ eW7
              refine ⟨Wt, D3, us0, zs, rfl, rfl, eW8, eD3, ?_, ?_⟩
              · have w1 := wtS_len W0
                have w2 : n * L ≤ 24 * 100 := Nat.mul_le_mul nn L100
                exact Nat.le_of_lt (szN (by omega))
              · have k58 := k5.trans (k7.trans k8)
                refine ⟨W0 ++ cs.map (fun c => (lv - 1, c)), pl, us0 ++ zs, _, _, _, _, _, rfl, same_mut (kk7.trans k8) nWH, by rw [upd_ne nWp]; exact k8 _ _ (k7 _ _ ep5), lpl, upd_same, ?_, fun x hx => ?_, ?_, by omega, ?_⟩
                · exact ((lv0.mono fun _ _ z => (PairR.mn natR_mn NsR.mn).to z (TK.same k58)).app2 lz).mono fun _ _ z => (PairR.mn natR_mn NsR.mn).to z (TK.mut (TK.refl _) eW8)
                · rcases List.mem_append.mp hx with h | h
                  · exact hW x (List.mem_append_left _ h)
                  · exact ip x h
                · rw [wtS_app]
                  have : lv - 1 + 1 = lv := by omega
                  rw [this] at wp
                  have e2 : ms.length * (lv + 1) = ms.length * lv + ms.length := by rw [Nat.mul_succ]
                  omega
                · rw [← hr0, fs, if_pos e]
          | false =>
            refine ⟨false, by rw [ea, e], ?_⟩
            refine ⟨_, rfl, mm, rfl, ⟨_, SqT.of (k7 _ _ emm)⟩, ?_⟩
            refine for_it (walk_tup (K := K) (a := mm) (xs := ms.map nV)) (fun i σ' H' => ∃ x7, σ' = [some sc, some (.ref va), some (.ref p), some (.ref Wt), some (nV lv), some (.ref mm), some (.ref pa), x7, x8] ∧ Same H H' ∧ H' p = some (.lst (((ms.take i).foldl (fun p k => p.set k lv) pl).map nV)) ∧ TK H0 H' ∧ H' Wt = some (.lst us0)) ⟨_, rfl, kk7, k7 _ _ ep5, (TK.same k5).trans (TK.same k7), k7 _ _ eW5⟩ ?_ ?_ ?_
            · rintro i σ' H' _ ⟨_, _, _, _, t, _⟩
              exact SqT.of (t _ _ emm0)
            · rintro i x σ' H7 H8 hi ⟨x7, rfl, k7, ep7, t7, eW7⟩ ⟨rfl, hx⟩
              rw [List.length_map] at hi
              rw [nat_at hi] at hx
              have hx := Option.some.inj hx
              subst hx
              have hk : ms.getD i 0 < n := hms _ (getD_mem (d := 0) hi)
              have fl := fold_len ((ms.take i)) lv pl
              refine ⟨_, rfl, _, rfl, _, rfl, p, _, _, ms.getD i 0, rfl, rfl, ep7, ixN_nat (by rw [List.length_map]; omega), ?_⟩
              refine ⟨_, rfl, same_mut k7 npH, ?_, t7.mut ep7, by rw [upd_ne nWp.symm]; exact eW7⟩
              rw [upd_same, take_oneD 0 hi, List.foldl_append, map_set]; rfl
            · rintro σ' H7 ⟨x7, rfl, k7, ep7, t7, eW7⟩
              rw [List.length_map, List.take_length] at ep7
              refine ⟨W0, _, us0, _, _, _, _, _, rfl, k7, ep7, by rw [fold_len]; exact lpl, eW7, lv0.mono fun _ _ z => (PairR.mn natR_mn NsR.mn).to z t7, fun x hx => hW x (List.mem_append_left _ hx), by omega, by omega, ?_⟩
              rw [← hr0, finF_snoc, if_neg (by rw [gg, e]; exact Bool.false_ne_true)]
      · refine ⟨false, bFa (show ¬ (0 : Int) < (lv : Int) by omega), ?_⟩
        have gg : goes (fun lv ms => cls (eqs D lv) ms) (unsB F C W) (lv, ms) = false := by
          unfold goes
          show (decide (0 < lv) && _) = _
          rw [decide_eq_false c, Bool.false_and]
        refine ⟨_, rfl, mm, rfl, ⟨_, SqT.of ((Same.refl H5) _ _ emm)⟩, ?_⟩
        refine for_it (walk_tup (K := K) (a := mm) (xs := ms.map nV)) (fun i σ' H' => ∃ x7, σ' = [some sc, some (.ref va), some (.ref p), some (.ref Wt), some (nV lv), some (.ref mm), some (.ref pa), x7, x8] ∧ Same H H' ∧ H' p = some (.lst (((ms.take i).foldl (fun p k => p.set k lv) pl).map nV)) ∧ TK H0 H' ∧ H' Wt = some (.lst us0)) ⟨_, rfl, kk, ep5, TK.same k5, eW5⟩ ?_ ?_ ?_
        · rintro i σ' H' _ ⟨_, _, _, _, t, _⟩
          exact SqT.of (t _ _ emm0)
        · rintro i x σ' H7 H8 hi ⟨x7, rfl, k7, ep7, t7, eW7⟩ ⟨rfl, hx⟩
          rw [List.length_map] at hi
          rw [nat_at hi] at hx
          have hx := Option.some.inj hx
          subst hx
          have hk : ms.getD i 0 < n := hms _ (getD_mem (d := 0) hi)
          have fl := fold_len ((ms.take i)) lv pl
          refine ⟨_, rfl, _, rfl, _, rfl, p, _, _, ms.getD i 0, rfl, rfl, ep7, ixN_nat (by rw [List.length_map]; omega), ?_⟩
          refine ⟨_, rfl, same_mut k7 npH, ?_, t7.mut ep7, by rw [upd_ne nWp.symm]; exact eW7⟩
          rw [upd_same, take_oneD 0 hi, List.foldl_append, map_set]; rfl
        · rintro σ' H7 ⟨x7, rfl, k7, ep7, t7, eW7⟩
          rw [List.length_map, List.take_length] at ep7
          refine ⟨W0, _, us0, _, _, _, _, _, rfl, k7, ep7, by rw [fold_len]; exact lpl, eW7, lv0.mono fun _ _ z => (PairR.mn natR_mn NsR.mn).to z t7, fun x hx => hW x (List.mem_append_left _ hx), by omega, by omega, ?_⟩
          rw [← hr0, finF_snoc, if_neg (by rw [gg]; exact Bool.false_ne_true)]
end
end Vf

set_option Elab.async false
set_option linter.all false
set_option maxRecDepth 100000
set_option maxHeartbeats 4000000
namespace Vf
open PySem PySem.Spec PyProof.Rows L2 TL
/-! ### the finest plan is honest, safe and the least -/
theorem put_perm (eq : Nat → Nat → Bool) (k : Nat) : ∀ cs : List (List Nat), (put eq cs k).flatten.Perm (cs.flatten ++ [k])
  | [] => List.Perm.refl _
  | c :: cs => by
    unfold put
    split
    · show (c ++ [k] ++ cs.flatten).Perm (c ++ cs.flatten ++ [k])
      rw [List.append_assoc, List.append_assoc]
      exact List.Perm.append_left _ List.perm_append_comm
    · show (c ++ (put eq cs k).flatten).Perm (c ++ cs.flatten ++ [k])
      rw [List.append_assoc]
      exact List.Perm.append_left _ (put_perm eq k cs)
theorem cls_perm (eq : Nat → Nat → Bool) (ms : List Nat) : (cls eq ms).flatten.Perm ms := by
  refine list_snoc (p := fun ms => (cls eq ms).flatten.Perm ms) (List.Perm.refl _) (fun l x ih => ?_) ms
  rw [cls_snoc]
  exact (put_perm eq x _).trans (ih.append_right _)
/-- each class holds one value, no two the same -/
structure Ptn (v : Nat → Nat) (cs : List (List Nat)) : Prop where
  ho : ∀ c ∈ cs, c ≠ [] ∧ ∀ a ∈ c, ∀ b ∈ c, v a = v b
  pw : cs.Pairwise fun c d => ∀ a ∈ c, ∀ b ∈ d, v a ≠ v b
theorem put_ptn {n : Nat} {eq : Nat → Nat → Bool} {v : Nat → Nat} (he : ∀ a b, a < n → b < n → eq a b = decide (v a = v b)) {k : Nat} (hk : k < n) :
    ∀ {cs : List (List Nat)}, (∀ c ∈ cs, ∀ a ∈ c, a < n) → Ptn v cs → Ptn v (put eq cs k)
  | [], _, _ => ⟨fun c hc => by rw [List.mem_singleton.mp hc]; exact ⟨List.cons_ne_nil _ _, fun a ha b hb => by rw [List.mem_singleton.mp ha, List.mem_singleton.mp hb]⟩, List.pairwise_singleton _ _⟩
  | c :: cs, hm, ⟨ho, pw⟩ => by
    have ⟨ne, h0⟩ := ho c List.mem_cons_self
    obtain ⟨p1, p2⟩ := List.pairwise_cons.mp pw
    have hx : c.headD 0 ∈ c := by
      cases c with
      | nil => exact absurd rfl ne
      | cons x r => exact List.mem_cons_self
    have ec : eq (c.headD 0) k = decide (v (c.headD 0) = v k) := he _ k (hm c List.mem_cons_self _ hx) hk
    generalize c.headD 0 = x at hx ec
    unfold put
    by_cases d : v x = v k
    · have e : eq (c.headD 0) k = true := by
        have hx2 : c.headD 0 ∈ c := by
          cases c with
          | nil => exact absurd rfl ne
          | cons x r => exact List.mem_cons_self
        rw [he _ k (hm c List.mem_cons_self _ hx2) hk, h0 _ hx2 x hx, decide_eq_true d]
      rw [if_pos e]
      have va : ∀ a ∈ c ++ [k], v a = v k := fun a ha => by
        rcases List.mem_append.mp ha with h | h
        · rw [h0 a h x hx, d]
        · rw [List.mem_singleton.mp h]
      refine ⟨fun q hq => ?_, List.pairwise_cons.mpr ⟨fun q hq a ha b hb => ?_, p2⟩⟩
      · rcases List.mem_cons.mp hq with rfl | hq
        · exact ⟨by simp, fun a ha b hb => by rw [va a ha, va b hb]⟩
        · exact ho q (List.mem_cons_of_mem _ hq)
      · rw [va a ha, ← d]; exact p1 q hq x hx b hb
    · have e : eq (c.headD 0) k = false := by
        have hx2 : c.headD 0 ∈ c := by
          cases c with
          | nil => exact absurd rfl ne
          | cons x r => exact List.mem_cons_self
        rw [he _ k (hm c List.mem_cons_self _ hx2) hk, h0 _ hx2 x hx, decide_eq_false d]
      rw [e, if_neg Bool.false_ne_true]
      have ⟨i1, i2⟩ := put_ptn he hk (fun q hq => hm q (List.mem_cons_of_mem _ hq)) ⟨fun q hq => ho q (List.mem_cons_of_mem _ hq), p2⟩
      refine ⟨fun q hq => ?_, List.pairwise_cons.mpr ⟨fun q hq a ha b hb => ?_, i2⟩⟩
      · rcases List.mem_cons.mp hq with rfl | hq
        · exact ⟨ne, h0⟩
        · exact i1 q hq
      · have hb2 : b ∈ cs.flatten ++ [k] := (put_perm eq k cs).mem_iff.mp (List.mem_flatten.mpr ⟨q, hq, hb⟩)
        rcases List.mem_append.mp hb2 with h | h
        · obtain ⟨d, hd, hb⟩ := List.mem_flatten.mp h
          exact p1 d hd a ha b hb
        · rw [List.mem_singleton.mp h, h0 a ha x hx]; exact d
theorem cls_ptn {n : Nat} {eq : Nat → Nat → Bool} {v : Nat → Nat} (he : ∀ a b, a < n → b < n → eq a b = decide (v a = v b)) (ms : List Nat) : (∀ k ∈ ms, k < n) → Ptn v (cls eq ms) := by
  refine list_snoc (p := fun ms => (∀ k ∈ ms, k < n) → Ptn v (cls eq ms)) (fun _ => ⟨(fun _ h => nomatch h), List.Pairwise.nil⟩) (fun l x ih hm => ?_) ms
  rw [cls_snoc]
  have hl : ∀ k ∈ l, k < n := fun k hk => hm k (List.mem_append_left _ hk)
  refine put_ptn he (hm x (List.mem_append_right _ (List.mem_singleton.mpr rfl))) (fun c hc a ha => ?_) (ih hl)
  exact hl a ((cls_perm eq l).mem_iff.mp (List.mem_flatten.mpr ⟨c, hc, ha⟩))
theorem Ptn.uniq {v : Nat → Nat} {cs : List (List Nat)} (h : cs.Pairwise fun c d => ∀ a ∈ c, ∀ b ∈ d, v a ≠ v b) {c d : List Nat} {a b : Nat} (hc : c ∈ cs) (hd : d ∈ cs) (ha : a ∈ c) (hb : b ∈ d) (e : v a = v b) : c = d := by
  induction cs with
  | nil => cases hc
  | cons x cs ih =>
    obtain ⟨p1, p2⟩ := List.pairwise_cons.mp h
    rcases List.mem_cons.mp hc with e1 | hc
    · rcases List.mem_cons.mp hd with e2 | hd
      · rw [e1, e2]
      · rw [e1] at ha
        exact absurd e (p1 d hd a ha b hb)
    · rcases List.mem_cons.mp hd with e2 | hd
      · rw [e2] at hb
        exact absurd e.symm (p1 c hc b hb a ha)
      · exact ih p2 hc hd
theorem cls_mem {n : Nat} {eq : Nat → Nat → Bool} {v : Nat → Nat} (he : ∀ a b, a < n → b < n → eq a b = decide (v a = v b)) {ms : List Nat} (hm : ∀ k ∈ ms, k < n) {c : List Nat} (hc : c ∈ cls eq ms) {a : Nat} (ha : a ∈ c) (k : Nat) : k ∈ c ↔ k ∈ ms ∧ v k = v a := by
  have p := cls_ptn he ms hm
  have pm := cls_perm eq ms
  constructor
  · intro hk
    exact ⟨pm.mem_iff.mp (List.mem_flatten.mpr ⟨c, hc, hk⟩), (p.ho c hc).2 k hk a ha⟩
  · rintro ⟨hk, e⟩
    obtain ⟨d, hd, hkd⟩ := List.mem_flatten.mp (pm.mem_iff.mpr hk)
    rw [Ptn.uniq p.pw hc hd ha hkd e.symm]; exact hkd
/-- what the law asks of the levels: V lv k is the mark of k at level lv -/
structure Lvs (n L : Nat) (eq : Nat → Nat → Nat → Bool) (V : Nat → Nat → Nat) : Prop where
  he : ∀ lv, lv < L → ∀ a b, a < n → b < n → eq lv a b = decide (V lv a = V lv b)
  up : ∀ lv, lv + 1 < L → ∀ a b, a < n → b < n → V lv a = V lv b → V (lv + 1) a = V (lv + 1) b
  top : ∀ a b, a < n → b < n → V (L - 1) a = V (L - 1) b
theorem Lvs.ups {n L : Nat} {eq : Nat → Nat → Nat → Bool} {V : Nat → Nat → Nat} (h : Lvs n L eq V) {a b lv : Nat} (ha : a < n) (hb : b < n) (e : V lv a = V lv b) : ∀ d, lv + d < L → V (lv + d) a = V (lv + d) b
  | 0, _ => e
  | d + 1, hd => h.up _ hd a b ha hb (Lvs.ups h ha hb e d (by omega))
/-- a set is unsafe by one of its members, and so is each part with this member -/
def UnOk (n : Nat) (un : List Nat → Bool) : Prop := ∀ q, (∀ k ∈ q, k < n) → un q = true → ∃ m ∈ q, ∀ s : List Nat, (∀ k ∈ s, k ∈ q) → m ∈ s → un s = true
def cl (V : Nat → Nat → Nat) (n lv k : Nat) : List Nat := (List.range n).filter fun o => decide (V lv o = V lv k)
theorem cl_mem {V : Nat → Nat → Nat} {n lv k o : Nat} : o ∈ cl V n lv k ↔ o < n ∧ V lv o = V lv k := by
  unfold cl
  rw [List.mem_filter, List.mem_range, decide_eq_true_eq]
structure PlanOk (n L : Nat) (V : Nat → Nat → Nat) (un : List Nat → Bool) (p : Nat → Nat) : Prop where
  lt : ∀ k, k < n → p k < L
  hon : ∀ k j, k < n → j < n → V (p k) j = V (p k) k → p j = p k
  sf : ∀ k, k < n → un (cl V n (p k) k) = false
/-- an unsafe class of a level: each good plan stands above it -/
theorem above {n L : Nat} {eq : Nat → Nat → Nat → Bool} {V : Nat → Nat → Nat} {un : List Nat → Bool} (h : Lvs n L eq V) (hu : UnOk n un) {p : Nat → Nat} (ok : PlanOk n L V un p) {lv : Nat} (hl : lv + 1 < L) {q : List Nat} {a : Nat}
    (ha : a < n) (hq : ∀ k, k ∈ q ↔ k < n ∧ V lv k = V lv a) (bad : un q = true) : ∀ k, k < n → V (lv + 1) k = V (lv + 1) a → lv + 1 ≤ p k := fun k hk e => by
  refine Nat.le_of_not_lt fun lo => ?_
  obtain ⟨m, hm, hs⟩ := hu q (fun k hk => ((hq k).mp hk).1) bad
  have ⟨mn, me⟩ := (hq m).mp hm
  have pm : p m ≤ lv := by
    refine Nat.le_of_not_lt fun hi => ?_
    have em : V (lv + 1) m = V (lv + 1) k := by rw [h.up lv hl m a mn ha me, e]
    have e2 : V (p m) m = V (p m) k := by
      have := h.ups mn hk em (p m - (lv + 1)) (by have := ok.lt m mn; omega)
      rw [show lv + 1 + (p m - (lv + 1)) = p m by omega] at this
      exact this
    have := ok.hon m k mn hk e2.symm
    omega
  have := hs (cl V n (p m) m) (fun j hj => by
    have ⟨jn, je⟩ := cl_mem.mp hj
    have e2 := h.ups jn mn je (lv - p m) (by omega)
    rw [show p m + (lv - p m) = lv by omega] at e2
    exact (hq j).mpr ⟨jn, by rw [e2, me]⟩) (cl_mem.mpr ⟨mn, rfl⟩)
  rw [ok.sf m mn] at this
  cases this
/-- what is settled for k -/
structure Done (n L : Nat) (V : Nat → Nat → Nat) (un : List Nat → Bool) (A pl : List Nat) (k : Nat) : Prop where
  lt : pl.getD k 0 < L
  sf : un (cl V n (pl.getD k 0) k) = false
  all : ∀ j, j < n → V (pl.getD k 0) j = V (pl.getD k 0) k → pl.getD j 0 = pl.getD k 0 ∧ j ∉ A
  least : ∀ p, PlanOk n L V un p → pl.getD k 0 ≤ p k
  bad : 0 < pl.getD k 0 → ∃ a, a < n ∧ V (pl.getD k 0) a = V (pl.getD k 0) k ∧ un (cl V n (pl.getD k 0 - 1) a) = true
structure FInv (n L : Nat) (V : Nat → Nat → Nat) (un : List Nat → Bool) (W : List Itm) (pl : List Nat) : Prop where
  wl : pl.length = n
  wh : ∀ x ∈ W, x.1 < L ∧ un x.2 = false ∧ ∀ a ∈ x.2, a < n ∧ ∀ k, k ∈ x.2 ↔ k < n ∧ V x.1 k = V x.1 a
  nd : (W.map Prod.snd).flatten.Nodup
  dn : ∀ k, k < n → k ∉ (W.map Prod.snd).flatten → Done n L V un (W.map Prod.snd).flatten pl k
theorem set_all (lv : Nat) : ∀ (ks : List Nat) (p : List Nat), (∀ k ∈ ks, k < p.length) → ∀ k, (ks.foldl (fun p k => p.set k lv) p).getD k 0 = if k ∈ ks then lv else p.getD k 0
  | [], p, _, k => by rw [List.foldl_nil, if_neg List.not_mem_nil]
  | x :: ks, p, h, k => by
    rw [List.foldl_cons, set_all lv ks _ (fun k hk => by rw [List.length_set]; exact h k (List.mem_cons_of_mem _ hk)) k]
    by_cases c : k ∈ ks
    · rw [if_pos c, if_pos (List.mem_cons_of_mem _ c)]
    · rw [if_neg c]
      by_cases e : x = k
      · rw [e, if_pos List.mem_cons_self]
        refine getD_of ?_
        rw [List.getElem?_set, if_pos rfl, if_pos (by rw [← e]; exact h x List.mem_cons_self)]
      · rw [if_neg (fun z => by rcases List.mem_cons.mp z with z | z; exact e z.symm; exact c z)]
        rw [List.getD_eq_getElem?_getD, List.getElem?_set, if_neg e, ← List.getD_eq_getElem?_getD]
theorem un_same {n : Nat} {un : List Nat → Bool} (hu : UnOk n un) {q s : List Nat} (hq : ∀ k ∈ q, k < n) (h : ∀ k, k ∈ q ↔ k ∈ s) (hs : un s = false) : un q = false := by
  cases e : un q with
  | false => rfl
  | true =>
    obtain ⟨m, hm, h2⟩ := hu q hq e
    rw [h2 s (fun k hk => (h k).mpr hk) ((h m).mp hm)] at hs
    cases hs
theorem app_flat (W : List Itm) (x : Itm) : ((W ++ [x]).map Prod.snd).flatten = (W.map Prod.snd).flatten ++ x.2 := by
  rw [List.map_append, List.flatten_append]
  show _ ++ (x.2 ++ []) = _
  rw [List.append_nil]
theorem finF_inv {n L : Nat} {eq : Nat → Nat → Nat → Bool} {V : Nat → Nat → Nat} {un : List Nat → Bool} (h : Lvs n L eq V) (hu : UnOk n un) : ∀ (f : Nat) (W : List Itm) (pl : List Nat), FInv n L V un W pl → wtS W ≤ f →
    FInv n L V un [] (finF (fun lv ms => cls (eq lv) ms) un f W pl)
  | 0, W, pl, i, hf => by
    have : W = [] := List.length_eq_zero_iff.mp (by have := wtS_len W; omega)
    rw [this] at i; exact i
  | f + 1, W, pl, i, hf => by
    by_cases c : W = []
    · rw [c, finF_nil]; rw [c] at i; exact i
    have e := (List.dropLast_concat_getLast c).symm
    generalize W.dropLast = W0 at e
    generalize W.getLast c = x at e
    subst e
    obtain ⟨wl, wh, nd, dn⟩ := i
    obtain ⟨lv, ms⟩ := x
    have ⟨xl, xs, xm⟩ := wh (lv, ms) (List.mem_append_right _ (List.mem_singleton.mpr rfl))
    have xl : lv < L := xl
    have xm : ∀ a ∈ ms, a < n ∧ ∀ k, k ∈ ms ↔ k < n ∧ V lv k = V lv a := xm
    have xs : un ms = false := xs
    have hms : ∀ k ∈ ms, k < n := fun k hk => (xm k hk).1
    rw [app_flat] at nd dn
    have nd : ((W0.map Prod.snd).flatten ++ ms).Nodup := nd
    have dn : ∀ k, k < n → k ∉ (W0.map Prod.snd).flatten ++ ms → Done n L V un ((W0.map Prod.snd).flatten ++ ms) pl k := dn
    have wS : wtS (W0 ++ [(lv, ms)]) = wtS W0 + (ms.length * (lv + 1) + 1) := by rw [wtS_app]; rfl
    rw [finF_snoc]
    by_cases g : goes (fun lv ms => cls (eq lv) ms) un (lv, ms) = true
    · rw [if_pos g]
      unfold goes at g
      rw [Bool.and_eq_true] at g
      have g0 : 0 < lv := of_decide_eq_true g.1
      have g1 : ((cls (eq (lv - 1)) ms).all fun c => !un c) = true := g.2
      have he := h.he (lv - 1) (by omega)
      have pm := cls_perm (eq (lv - 1)) ms
      have es : (((cls (eq (lv - 1)) ms).map fun c => ((lv - 1, c) : Itm)).map Prod.snd).flatten = (cls (eq (lv - 1)) ms).flatten := by
        rw [List.map_map]; exact congrArg List.flatten (List.map_id _)
      have pa : ((W0 ++ (cls (eq (lv - 1)) ms).map fun c => ((lv - 1, c) : Itm)).map Prod.snd).flatten.Perm ((W0.map Prod.snd).flatten ++ ms) := by
        rw [List.map_append, List.flatten_append, es]
        exact List.Perm.append_left _ pm
      refine finF_inv h hu f _ pl ⟨wl, fun y hy => ?_, pa.nodup_iff.mpr nd, fun k hk nk => ?_⟩ ?_
      · rcases List.mem_append.mp hy with hy | hy
        · exact wh y (List.mem_append_left _ hy)
        · obtain ⟨c, hc, rfl⟩ := List.mem_map.mp hy
          refine ⟨by show lv - 1 < L; omega, ?_, fun a ha => ?_⟩
          · have := List.all_eq_true.mp g1 c hc
            cases z : un c with
            | false => rfl
            | true => rw [z] at this; cases this
          · have ha : a ∈ c := ha
            have ham : a ∈ ms := pm.mem_iff.mp (List.mem_flatten.mpr ⟨c, hc, ha⟩)
            refine ⟨hms a ham, fun k => ?_⟩
            show k ∈ c ↔ k < n ∧ V (lv - 1) k = V (lv - 1) a
            rw [cls_mem he hms hc ha k]
            constructor
            · rintro ⟨p, q⟩; exact ⟨hms k p, q⟩
            · rintro ⟨p, q⟩
              refine ⟨((xm a ham).2 k).mpr ⟨p, ?_⟩, q⟩
              have := h.up (lv - 1) (by omega) k a p (hms a ham) q
              rw [Nat.sub_add_cancel g0] at this
              exact this
      · have d := dn k hk fun z => nk (pa.mem_iff.mpr z)
        exact ⟨d.lt, d.sf, fun j hj e => ⟨(d.all j hj e).1, fun z => (d.all j hj e).2 (pa.mem_iff.mp z)⟩, d.least, d.bad⟩
      · rw [wtS_app]
        have := wt_parts (eq := eq (lv - 1)) (lv := lv - 1) (ms := ms)
        rw [Nat.sub_add_cancel g0] at this
        rw [wS, Nat.mul_add] at hf
        have : wtS ((cls (eq (lv - 1)) ms).map fun c => (lv - 1, c)) ≤ ms.length * lv + ms.length := this
        show wtS W0 + wtS ((cls (eq (lv - 1)) ms).map fun c => (lv - 1, c)) ≤ f
        omega
    · rw [if_neg g]
      have pl' : ∀ k, (ms.foldl (fun p k => p.set k lv) pl).getD k 0 = if k ∈ ms then lv else pl.getD k 0 := set_all lv ms pl fun k hk => by rw [wl]; exact hms k hk
      refine finF_inv h hu f W0 _ ⟨by rw [fold_len]; exact wl, fun y hy => wh y (List.mem_append_left _ hy), (List.nodup_append.mp nd).1, fun k hk nk => ?_⟩ ?_
      · by_cases km : k ∈ ms
        · have ek : (ms.foldl (fun p k => p.set k lv) pl).getD k 0 = lv := by rw [pl', if_pos km]
          have ⟨_, xk⟩ := xm k km
          have hbad : 0 < lv → ∃ c a, a ∈ ms ∧ (∀ j, j ∈ c ↔ j < n ∧ V (lv - 1) j = V (lv - 1) a) ∧ un c = true := fun l0 => by
            have gf : ((cls (eq (lv - 1)) ms).all fun c => !un c) = false := by
              cases z : (cls (eq (lv - 1)) ms).all fun c => !un c with
              | false => rfl
              | true =>
                refine absurd ?_ g
                unfold goes
                rw [Bool.and_eq_true]
                exact ⟨decide_eq_true (by show 0 < lv; omega), z⟩
            obtain ⟨c, hc, hb⟩ := List.all_eq_false.mp gf
            have hb : un c = true := by
              cases z : un c with
              | true => rfl
              | false => rw [z] at hb; exact absurd rfl hb
            have he := h.he (lv - 1) (by omega)
            have pm := cls_perm (eq (lv - 1)) ms
            have cn : c ≠ [] := ((cls_ptn he ms hms).ho c hc).1
            obtain ⟨a, r, ea⟩ : ∃ a r, c = a :: r := by
              cases c with
              | nil => exact absurd rfl cn
              | cons a r => exact ⟨a, r, rfl⟩
            have hac : a ∈ c := by rw [ea]; exact List.mem_cons_self
            have ham : a ∈ ms := pm.mem_iff.mp (List.mem_flatten.mpr ⟨c, hc, hac⟩)
            refine ⟨c, a, ham, fun j => ?_, hb⟩
            rw [cls_mem he hms hc hac j]
            constructor
            · rintro ⟨p, q⟩; exact ⟨hms j p, q⟩
            · rintro ⟨p, q⟩
              refine ⟨((xm a ham).2 j).mpr ⟨p, ?_⟩, q⟩
              have := h.up (lv - 1) (by omega) j a p (hms a ham) q
              rw [Nat.sub_add_cancel (by omega)] at this
              exact this
          refine ⟨by rw [ek]; exact xl, ?_, fun j hj e => ?_, fun p ok => ?_, fun l0 => ?_⟩
          · rw [ek]
            exact un_same hu (fun j hj => (cl_mem.mp hj).1) (fun j => by rw [cl_mem, xk]) xs
          · rw [ek] at e ⊢
            have jm : j ∈ ms := (xk j).mpr ⟨hj, e⟩
            exact ⟨by rw [pl', if_pos jm], fun z => (List.nodup_append.mp nd).2.2 j z j jm rfl⟩
          · rw [ek]
            by_cases l0 : lv = 0
            · omega
            · obtain ⟨c, a, ham, hq, hb⟩ := hbad (by omega)
              have := above h hu ok (lv := lv - 1) (by omega) (hms a ham) hq hb k hk (by
                rw [Nat.sub_add_cancel (by omega)]
                exact (((xm a ham).2 k).mp km).2)
              omega
          · rw [ek] at l0 ⊢
            obtain ⟨c, a, ham, hq, hb⟩ := hbad l0
            refine ⟨a, hms a ham, (((xm a ham).2 k).mp km).2.symm, ?_⟩
            cases z : un (cl V n (lv - 1) a) with
            | true => rfl
            | false =>
              have := un_same hu (q := c) (fun j hj => ((hq j).mp hj).1) (fun j => by rw [cl_mem, hq]) z
              rw [hb] at this; cases this
        · have ek : (ms.foldl (fun p k => p.set k lv) pl).getD k 0 = pl.getD k 0 := by rw [pl', if_neg km]
          have d := dn k hk fun z => by
            rcases List.mem_append.mp z with z | z
            · exact nk z
            · exact km z
          refine ⟨by rw [ek]; exact d.lt, by rw [ek]; exact d.sf, fun j hj e => ?_, by rw [ek]; exact d.least, by rw [ek]; exact d.bad⟩
          rw [ek] at e ⊢
          have ⟨p, q⟩ := d.all j hj e
          have jm : j ∉ ms := fun z => q (List.mem_append_right _ z)
          exact ⟨by rw [pl', if_neg jm]; exact p, fun z => q (List.mem_append_left _ z)⟩
      · rw [wS] at hf
        omega
theorem finF_best {n L : Nat} {eq : Nat → Nat → Nat → Bool} {V : Nat → Nat → Nat} {un : List Nat → Bool} (h : Lvs n L eq V) (hu : UnOk n un) (L1 : 1 ≤ L) (whole : un (List.range n) = false) :
    ∃ pl, finF (fun lv ms => cls (eq lv) ms) un (n * L + 1) [(L - 1, List.range n)] (List.replicate n 0) = pl ∧ pl.length = n ∧ PlanOk n L V un (pl.getD · 0) ∧ (∀ p, PlanOk n L V un p → ∀ k, k < n → pl.getD k 0 ≤ p k) ∧ ∀ k, k < n → 0 < pl.getD k 0 → ∃ a, a < n ∧ V (pl.getD k 0) a = V (pl.getD k 0) k ∧ un (cl V n (pl.getD k 0 - 1) a) = true := by
  have fl : (([(L - 1, List.range n)] : List Itm).map Prod.snd).flatten = List.range n := by
    show List.range n ++ [] = _
    rw [List.append_nil]
  have i := finF_inv h hu (n * L + 1) [(L - 1, List.range n)] (List.replicate n 0) ⟨List.length_replicate, fun x hx => ?_, by rw [fl]; exact List.nodup_range, fun k hk nk => ?_⟩ ?_
  · refine ⟨_, rfl, i.wl, ⟨fun k hk => (i.dn k hk List.not_mem_nil).lt, fun k j hk hj e => ((i.dn k hk List.not_mem_nil).all j hj e).1, fun k hk => (i.dn k hk List.not_mem_nil).sf⟩, fun p ok k hk => (i.dn k hk List.not_mem_nil).least p ok, fun k hk => (i.dn k hk List.not_mem_nil).bad⟩
  · rw [List.mem_singleton.mp hx]
    refine ⟨by show L - 1 < L; omega, whole, fun a ha => ?_⟩
    have ha : a < n := List.mem_range.mp ha
    refine ⟨ha, fun k => ?_⟩
    show k ∈ List.range n ↔ k < n ∧ V (L - 1) k = V (L - 1) a
    rw [List.mem_range]
    exact ⟨fun hk => ⟨hk, h.top k a hk ha⟩, fun h => h.1⟩
  · rw [fl] at nk
    exact absurd (List.mem_range.mpr hk) nk
  · show (List.range n).length * (L - 1 + 1) + 1 + 0 ≤ _
    rw [List.length_range, Nat.sub_add_cancel L1]
    exact Nat.le_refl _
/-! ways grow with the set -/
theorem sum_sub {f : Nat → Nat} : ∀ {xs ys : List Nat}, xs.Nodup → (∀ x ∈ xs, x ∈ ys) → (xs.map f).sum ≤ (ys.map f).sum
  | [], _, _, _ => Nat.zero_le _
  | x :: xs, ys, nd, h => by
    have ⟨a, b⟩ := List.nodup_cons.mp nd
    have hx := h x List.mem_cons_self
    have pm := List.perm_cons_erase hx
    have := sum_sub (f := f) (xs := xs) (ys := ys.erase x) b fun y hy => (List.mem_erase_of_ne (fun e : y = x => a (by rw [← e]; exact hy))).mpr (h y (List.mem_cons_of_mem _ hy))
    rw [(pm.map f).sum_nat, List.map_cons, List.map_cons, List.sum_cons, List.sum_cons]
    omega
theorem ways_sub {C fs gs : List (List Nat)} {s : Nat} (h : ∀ f ∈ fs, f ∈ gs) : waysL C fs s ≤ waysL C gs s := by
  unfold waysL
  refine sum_sub (met_nodup _) fun x hx => ?_
  obtain ⟨f, hf, rfl⟩ := List.mem_map.mp ((met_mem _ x).mp hx)
  exact (met_mem _ _).mpr (List.mem_map.mpr ⟨f, h f hf, rfl⟩)
theorem un_ok {n : Nat} {F C : List (List Nat)} {W : List Wt} : UnOk n (unsB F C W) := fun q hq h => by
  obtain ⟨wt, hw, h⟩ := List.any_eq_true.mp h
  obtain ⟨g, hg, h⟩ := List.any_eq_true.mp h
  unfold badG at h
  rw [Bool.and_eq_true] at h
  obtain ⟨m, hm, hmg⟩ := List.any_eq_true.mp h.1
  obtain ⟨p, hp, hl⟩ := List.any_eq_true.mp h.2
  refine ⟨m, hm, fun s hs ms => List.any_eq_true.mpr ⟨wt, hw, List.any_eq_true.mpr ⟨g, hg, ?_⟩⟩⟩
  unfold badG
  rw [Bool.and_eq_true]
  refine ⟨List.any_eq_true.mpr ⟨m, ms, hmg⟩, List.any_eq_true.mpr ⟨p, hp, decide_eq_true ?_⟩⟩
  refine Nat.lt_of_le_of_lt (ways_sub fun f hf => ?_) (of_decide_eq_true hl)
  obtain ⟨k, hk, rfl⟩ := List.mem_map.mp hf
  have ⟨a, b⟩ := List.mem_filter.mp hk
  exact List.mem_map.mpr ⟨k, List.mem_filter.mpr ⟨hs k a, b⟩, rfl⟩
end Vf

set_option Elab.async false
set_option linter.all false
set_option maxRecDepth 100000
set_option maxHeartbeats 4000000
namespace Vf
open PySem PySem.Spec PyProof.Rows L2 TL
def tCh0 : TE := fun σ H Q => ∃ (d l : Addr) (n : Nat) (x2 x3 x4 x5 x6 x7 x8 x9 x10 : Option V), σ = [some (.ref d), some (nV n), x2, x3, x4, x5, x6, x7, x8, x9, x10] ∧ DI d l H ∧ 1 ≤ n ∧ n ≤ 24 ∧ ∀ (H' : Hp) (q : Addr) (r : List Nat), Kp d H H' → DI d l H' → H q = none → H' q = some (.lst (r.map nV)) → r.length = n → (∀ x ∈ r, x < n) → Q (.ref q) H'
def tNew : TE := fun σ H Q => ∃ (x y z : Nat), σ[10]? = some (some (nV x)) ∧ σ[7]? = some (some (nV z)) ∧ σ[8]? = some (some (nV y)) ∧ Q (nV (if x = z then y else x)) H
/-- a row at an address that is neither d nor L -/
def RwX (d L : Addr) (H : Hp) (v : V) (r : List Nat) : Prop := ∃ a, v = .ref a ∧ a ≠ d ∧ a ≠ L ∧ H a = some (.lst (r.map nV))
theorem RwX.kp {d L : Addr} {H H' : Hp} {v : V} {r : List Nat} (h : RwX d L H v r) (k : Kp d H H') : RwX d L H' v r := by
  obtain ⟨a, e, n1, n2, h⟩ := h
  exact ⟨a, e, n1, n2, k _ _ n1 h⟩
theorem RwX.new {d L p : Addr} {o : HO} {H : Hp} {v : V} {r : List Nat} (h : RwX d L H v r) (hp : H p = none) : RwX d L (upd H p o) v r := by
  obtain ⟨a, e, n1, n2, h⟩ := h
  exact ⟨a, e, n1, n2, by rw [upd_ne (ne_of_none h hp)]; exact h⟩
theorem RwX.at {d L : Addr} {o : HO} {H : Hp} {v : V} {r : List Nat} (h : RwX d L H v r) : RwX d L (upd H L o) v r := by
  obtain ⟨a, e, n1, n2, h⟩ := h
  exact ⟨a, e, n1, n2, by rw [upd_ne n2]; exact h⟩
/-- the last row is all alike -/
def Nst (n : Nat) (r s : List Nat) : Prop := ∀ a b, a < n → b < n → r.getD a 0 = r.getD b 0 → s.getD a 0 = s.getD b 0
def NstC (n : Nat) (R : List (List Nat)) : Prop := ∀ j, j + 1 < R.length → Nst n (R.getD j []) (R.getD (j + 1) [])
def TopC (n : Nat) (R : List (List Nat)) : Prop := (∃ c, ∀ k, k < n → (R.getD (R.length - 1) []).getD k 0 = c) ∧ NstC n R
theorem get_D {α : Type} {xs : List α} {i : Nat} {d : α} (h : i < xs.length) : xs[i]? = some (xs.getD i d) := by
  rw [List.getD_eq_getElem?_getD, List.getElem?_eq_getElem h]; rfl
theorem Nst.map {n : Nat} {r s : List Nat} (f : Nat → Nat) (h : Nst n r s) (l : s.length = n) : Nst n r (s.map f) := fun a b ha hb e => by
  have g : ∀ a, a < n → (s.map f).getD a 0 = f (s.getD a 0) := fun a ha => getD_of (by rw [List.getElem?_map, get_D (d := 0) (by omega)]; rfl)
  rw [g a ha, g b hb, h a b ha hb e]
theorem NstC.snoc {n : Nat} {R : List (List Nat)} {s : List Nat} (h : NstC n R) (hs : Nst n (R.getD (R.length - 1) []) s) (r1 : 1 ≤ R.length) : NstC n (R ++ [s]) := fun j hj => by
  rw [List.length_append] at hj
  have hj : j + 1 < R.length + 1 := hj
  have gl : ∀ i, i < R.length → (R ++ [s]).getD i [] = R.getD i [] := fun i hi => by
    rw [List.getD_eq_getElem?_getD, List.getElem?_append_left hi, ← List.getD_eq_getElem?_getD]
  rw [gl j (by omega)]
  by_cases c : j + 1 < R.length
  · rw [gl _ c]; exact h j c
  · have e : j = R.length - 1 := by omega
    have e2 : (R ++ [s]).getD (j + 1) [] = s := getD_of (by rw [List.getElem?_append_right (by omega), show j + 1 - R.length = 0 by omega]; rfl)
    rw [e2, e]; exact hs
theorem NstC.last {n : Nat} {R : List (List Nat)} {s : List Nat} (h : NstC n R) (hs : ∀ a b, a < n → b < n → s.getD a 0 = s.getD b 0) : NstC n (R.set (R.length - 1) s) := fun j hj => by
  rw [List.length_set] at hj
  have g0 : (R.set (R.length - 1) s).getD j [] = R.getD j [] := by
    rw [List.getD_eq_getElem?_getD, List.getElem?_set, if_neg (by omega), ← List.getD_eq_getElem?_getD]
  rw [g0]
  by_cases c : j + 1 = R.length - 1
  · have e2 : (R.set (R.length - 1) s).getD (j + 1) [] = s := getD_of (by rw [List.getElem?_set, if_pos c.symm, if_pos (by omega)])
    rw [e2]
    exact fun a b ha hb _ => hs a b ha hb
  · have g1 : (R.set (R.length - 1) s).getD (j + 1) [] = R.getD (j + 1) [] := by
      rw [List.getD_eq_getElem?_getD, List.getElem?_set, if_neg (by omega), ← List.getD_eq_getElem?_getD]
    rw [g1]; exact h j hj
def RowOk (n : Nat) (r : List Nat) : Prop := r.length = n ∧ ∀ x ∈ r, x < n
theorem LV.set {α : Type} {R : V → α → Prop} {vs : List V} {rs : List α} {x : V} {r : α} (i : Nat) (h : LV R vs rs) (hx : R x r) : LV R (vs.set i x) (rs.set i r) := by
  refine ⟨by rw [List.length_set, List.length_set, h.1], fun j q e => ?_⟩
  rw [List.getElem?_set] at e ⊢
  by_cases c : i = j
  · rw [if_pos c] at e ⊢
    by_cases c2 : j < rs.length
    · rw [if_pos (by omega)] at e
      rw [if_pos (by rw [h.1]; omega)]
      exact ⟨x, rfl, (Option.some.inj e) ▸ hx⟩
    · rw [if_neg (by omega)] at e; cases e
  · rw [if_neg c] at e ⊢
    exact h.2 j q e
section
variable {P : Program} {w : World} {K : PySem.W.Frag} {mg : Str → Option Value} {base : Heap}
def spChain : Sp := fun vs H Q _ => ∃ (d l : Addr) (n m : Nat), vs = [.ref d, nV n, nV m] ∧ DI d l H ∧ 1 ≤ n ∧ n ≤ 24 ∧ 1 ≤ m ∧ m ≤ 8 ∧
  ∀ H' L rows R, Kp d H H' → DI d l H' → L ≠ d → H' L = some (.lst rows) → LV (RwX d L H') rows R → R.length = m → (∀ r ∈ R, RowOk n r) → TopC n R → Q (.ref L) H'
theorem ok_chain (T : Txt K mg) : FnOk P w K mg base CX0 3 T.a_law_plan_chain T.d_law_plan_chain ["_law_d", "_law_n", "_law_levels"] spChain := by
  have G_law_draw : FnOk P w K mg base CX0 1 T.a_law_draw T.d_law_draw ["_law_d", "_law_many"] spDraw := ok_draw T
  have G_law_pick : FnOk P w K mg base CX0 2 T.a_law_pick T.d_law_pick ["_law_d", "_law_row"] (spPick K) := ok_pick T
  refine T.D_law_plan_chain.F.ok sc_law_plan_chain (fun vs H Q E h => ?_) (fun cdv A outer s H vs Q E hr h => ?_)
  · obtain ⟨d, l, n, m, rfl, _⟩ := h
    rfl
  · obtain ⟨d, l, n, m, rfl, hD, n1, n24, m1, m8, q⟩ := h
    refine ⟨_, (pss_cons (ps_set (i := 3) sc_law_plan_chain.nd rfl (.inr rfl) (pe_lst (pa_cons (PE.to (t' := tCh0) (pe_ifExp (pt_cmpR op_eq (pe_call G_law_draw (hr.mono (by decide)) (by rfl) T.D_law_draw.G T.D_law_draw.F.kp T.D_law_draw.B .nil pass0 (pa_cons (pv 0) (pa_cons pe_int pa_nil))) pe_int (nomark _)) (pe_listRg (by rfl) (by rfl) T.n_list (prg_1 (by rfl) T.n_range (pv 1))) (pe_lc (own := [("_law_k", 9)]) (g := gName 9) (tt := tYes) rfl sc_law_plan_chain.nd (pi_range1 (by rfl) T.n_range (pa_cons (pv 1) pa_nil)) (blkOk_by (own := [("_law_k", 9)]) (N := ["_law_d", "_law_n", "_law_levels", "_law_rows", "_law_level", "_law_row", "_law_turn", "_law_old", "_law_new", "_law_k", "_law_one"]) (sc := (defScope s_law_plan_chain)) (by decide +kernel)) (fun _ _ _ _ _ => (pg_name (i := 9) sc_law_plan_chain.nd rfl (.inl rfl))) (fun _ _ _ _ _ => pts_nil) (fun _ _ _ _ _ => (pe_call G_law_draw (hr.mono (by decide)) (by rfl) T.D_law_draw.G T.D_law_draw.F.kp T.D_law_draw.B .nil pass0 (pa_cons (pv 0) (pa_cons (pv 1) pa_nil)))))) (fun σ H Q h => by
      obtain ⟨d, l, n, _, _, _, _, _, _, _, _, _, rfl, hD, n1, n24, q⟩ := h
      refine ⟨_, rfl, d, l, 3, rfl, hD, by decide, fun H1 r k1 D1 _ _ => ?_⟩
      refine ⟨rfl, _, rfl, ite2 (fun _ => ?_) (fun _ => ?_)⟩
      · refine ⟨_, rfl, (n : Int), rfl, RgOk.of_le (by omega) (by omega) (by omega) (by omega), fun b nb => ?_⟩
        rw [rgV_nats]
        exact q _ b _ (k1.new nb) (D1.new nb) (none_kp k1 (D1.nd nb).1 nb) upd_same (by rw [List.length_range]) fun x hx => List.mem_range.mp hx
      · refine ⟨_, rfl, (n : Int), rfl, by omega, by omega, ?_⟩
        rw [Int.toNat_natCast]
        refine fun D nD => ?_
        have nDd := D1.nd nD
        refine lc_it walk_range (fun i H' => ∃ r : List Nat, H' D = some (.lst (r.map nV)) ∧ r.length = i ∧ (∀ x ∈ r, x < n) ∧ Kp d H1 H' ∧ DI d l H') ⟨[], upd_same, rfl, (fun _ h => nomatch h), (Kp.refl d H1).new nD, D1.new nD⟩ (fun _ _ _ _ => trivial) ?_ ?_
        · rintro i x H2 H3 hi ⟨r, eD, lr, hr, k2, D2⟩ ⟨rfl, hx⟩
          refine ⟨rfl, ?_⟩
          refine ⟨_, rfl, _, rfl, d, l, (n : Int), rfl, D2, by omega, fun H4 x k4 D4 r1 r2 => ?_⟩
          obtain ⟨g, rfl, hg⟩ := draw_nt (by omega) r1 r2
          refine ⟨_, k4 _ _ nDd.1 eD, szN (by rw [List.length_map]; omega), r ++ [g], by rw [upd_same, List.map_append]; rfl, by rw [List.length_append, lr]; rfl, fun s hs => ?_, (k2.trans k4).mut nD, D4.at nDd.1 nDd.2⟩
          rcases List.mem_append.mp hs with h | h
          · exact hr s h
          · rw [List.mem_singleton.mp h]; omega
        · rintro H2 ⟨r, eD, lr, hr, k2, D2⟩
          exact q _ D _ (k1.trans k2) D2 (none_kp k1 nDd.1 nD) eD lr hr)) pa_nil)))
      (pss_cons (ps_for PassesOwn.never rfl (pi_range2 (by rfl) T.n_range (pa_cons pe_int (pa_cons (pv 2) pa_nil))) (pg_name (i := 4) sc_law_plan_chain.nd rfl (.inl rfl)) (pss_cons (ps_set (i := 5) sc_law_plan_chain.nd rfl (.inl rfl) (pe_callTy call_list_of (by rfl) T.n_list (by decide +kernel) (pa_cons (pe_ix ix_list (pv 3) (pe_un un_neg pe_int) (fun _ _ => rfl)) pa_nil)))
      (pss_cons (ps_for PassesOwn.never rfl (pi_range1 (by rfl) T.n_range (pa_cons (pe_op op_add pe_int (pe_call G_law_draw (hr.mono (by decide)) (by rfl) T.D_law_draw.G T.D_law_draw.F.kp T.D_law_draw.B .nil pass0 (pa_cons (pv 0) (pa_cons (pe_op op_add pe_int (pe_op op_fdivN (pv 1) pe_int)) pa_nil)))) pa_nil)) (pg_name (i := 6) sc_law_plan_chain.nd rfl (.inl rfl)) (pss_cons (ps_set (i := 7) sc_law_plan_chain.nd rfl (.inr rfl) (pe_call G_law_pick (hr.mono (by decide)) (by rfl) T.D_law_pick.G T.D_law_pick.F.kp T.D_law_pick.B .nil pass0 (pa_cons (pv 0) (pa_cons (pv 5) pa_nil))))
      (pss_cons (ps_set (i := 8) sc_law_plan_chain.nd rfl (.inr rfl) (pe_call G_law_pick (hr.mono (by decide)) (by rfl) T.D_law_pick.G T.D_law_pick.F.kp T.D_law_pick.B .nil pass0 (pa_cons (pv 0) (pa_cons (pv 5) pa_nil))))
      (pss_one (ps_setLc (i := 5) (own := [("_law_one", 10)]) (g := gName 10) (tt := tYes) rfl sc_law_plan_chain.nd rfl rfl (sw_true rfl rfl rfl (by decide +kernel)) (pi_list (pv 5)) (blkOk_by (own := [("_law_one", 10)]) (N := ["_law_d", "_law_n", "_law_levels", "_law_rows", "_law_level", "_law_row", "_law_turn", "_law_old", "_law_new", "_law_k", "_law_one"]) (sc := (defScope s_law_plan_chain)) (by decide +kernel)) (fun _ _ _ _ _ => (pg_name (i := 10) sc_law_plan_chain.nd rfl (.inl rfl))) (fun _ _ _ _ _ => pts_nil) (fun _ _ _ _ _ => (PE.to (t' := tNew) (pe_ifExp (pt_cmpR op_eq (pv 10) (pv 7) (nomark _)) (pv 8) (pv 10)) (fun σ H Q h => by
      obtain ⟨x, y, z, e1, e2, e3, q⟩ := h
      refine ⟨_, e1, _, e2, rfl, _, rfl, ite2 (fun c => ?_) (fun c => ?_)⟩
      · have c : decide (V.int (x : Int) = V.int (z : Int)) = true := c
        have c : x = z := by have := V.int.inj (of_decide_eq_true c); omega
        rw [if_pos c] at q
        exact ⟨_, e3, q⟩
      · have c : x ≠ z := fun e => c (by rw [e]; exact decide_eq_true rfl)
        rw [if_neg c] at q
        exact ⟨_, e1, q⟩))))))))
      (pss_one (ps_expr (pe_bm PySem.F.plainAttrs_list PySem.F.slot_list_append PySem.F.type_list_append mt_append (pv 3) (pa_cons (pv 5) pa_nil)))))))
      (pss_cons (ps_asg (pe_lc (own := [("_law_k", 9)]) (g := gName 9) (tt := tYes) rfl sc_law_plan_chain.nd (pi_range1 (by rfl) T.n_range (pa_cons (pv 1) pa_nil)) (blkOk_by (own := [("_law_k", 9)]) (N := ["_law_d", "_law_n", "_law_levels", "_law_rows", "_law_level", "_law_row", "_law_turn", "_law_old", "_law_new", "_law_k", "_law_one"]) (sc := (defScope s_law_plan_chain)) (by decide +kernel)) (fun _ _ _ _ _ => (pg_name (i := 9) sc_law_plan_chain.nd rfl (.inl rfl))) (fun _ _ _ _ _ => pts_nil) (fun _ _ _ _ _ => (pe_ix (r := rIxL K) ix_list (pe_ix (r := rIxL K) ix_list (pv 3) (pe_un un_neg pe_int) (fun _ _ => rfl)) pe_int (fun _ _ => rfl)))) (pg_sub (pv 3) (pe_un un_neg pe_int) set_list))
      (pss_one (ps_ret (pv 3)))))), ?_⟩
    refine ⟨d, l, n, _, _, _, _, _, _, _, _, _, rfl, hD, n1, n24, fun H1 q0 r0 k1 D1 nq0 eq0 lr0 hr0 => ?_⟩
    refine ⟨by show 1 ≤ sizeLine; decide, fun L nL => ?_⟩
    have nLd := D1.nd nL
    have nLH := none_kp k1 nLd.1 nL
    have nq0d := hD.nd nq0
    have nqL : q0 ≠ L := ne_of_none eq0 nL
    have k2 := k1.new (o := .lst [V.ref q0]) nL
    have D2 := D1.new (o := .lst [V.ref q0]) nL
    have eL : upd H1 L (.lst [V.ref q0]) L = some (.lst [V.ref q0]) := upd_same
    have lv0 : LV (RwX d L (upd H1 L (.lst [V.ref q0]))) [V.ref q0] [r0] := LV.nil.snoc (rs := []) (vs := []) ⟨q0, rfl, nq0d.1, nqL, by rw [upd_ne nqL]; exact eq0⟩
    generalize upd H1 L (.lst [V.ref q0]) = H2 at k2 D2 eL lv0
    refine ⟨_, rfl, 1, (m : Int), rfl, ⟨by omega, by omega, by omega, by omega⟩, ?_⟩
    refine for_it walk_range (fun i σ' H' => ∃ (rows : List V) (R : List (List Nat)) (x4 x5 x6 x7 x8 x9 x10 : Option V), σ' = [some (.ref d), some (nV n), some (nV m), some (.ref L), x4, x5, x6, x7, x8, x9, x10] ∧ Kp d H H' ∧ DI d l H' ∧ H' L = some (.lst rows) ∧ LV (RwX d L H') rows R ∧ R.length = i + 1 ∧ (∀ r ∈ R, RowOk n r) ∧ NstC n R)
      ⟨[V.ref q0], [r0], none, none, none, none, none, none, none, rfl, k2, D2, eL, lv0, rfl, fun r h => by rw [List.mem_singleton.mp h]; exact ⟨lr0, hr0⟩, fun j hj => absurd hj (Nat.not_lt_of_le (Nat.le_add_left 1 j))⟩ (fun _ _ _ _ _ => trivial) ?_ ?_
    · rintro i x σ' H3 H4 hi ⟨rows, R, x4, x5, x6, x7, x8, x9, x10, rfl, k4, D4, eL4, lv, lR, hR, hN⟩ ⟨rfl, hx⟩
      -- the last row
      obtain ⟨lv1, el, ra, rfl, nad, naL, era⟩ := lv.get0 (i := rows.length - 1) [] (by rw [lv.1]; omega)
      have ro := hR _ (getD_mem (xs := R) (i := rows.length - 1) (d := []) (by rw [lv.1]; omega))
      have hN1 : ∀ s, Nst n (R.getD (rows.length - 1) []) s → NstC n (R ++ [s]) := fun s hs => hN.snoc (by rw [← lv.1]; exact hs) (by omega)
      generalize R.getD (rows.length - 1) [] = r1 at era ro hN1
      refine ⟨_, rfl, _, rfl, L, _, _, _, rfl, rfl, SqL.of eL4, atI_l el, ra, _, rfl, .inl (SqL.of era), fun A nA => ?_⟩
      have nAd := D4.nd nA
      have nLA : L ≠ A := ne_of_none eL4 nA
      have k5 := k4.new (o := .lst (r1.map nV)) nA
      have D5 := D4.new (o := .lst (r1.map nV)) nA
      have eL5 : upd H4 A (.lst (r1.map nV)) L = some (.lst rows) := by rw [upd_ne nLA]; exact eL4
      have lv5 : LV (RwX d L (upd H4 A (.lst (r1.map nV)))) rows R := lv.mono fun _ _ z => z.new nA
      have eA5 : upd H4 A (.lst (r1.map nV)) A = some (.lst (r1.map nV)) := upd_same
      generalize upd H4 A (.lst (r1.map nV)) = H5 at k5 D5 eL5 lv5 eA5
      refine ⟨_, rfl, _, rfl, _, _, rfl, rfl, ⟨by decide, by decide⟩, _, _, rfl, rfl, d, l, _, rfl, D5, ?_, fun H6 r k6 D6 rr1 rr2 => ?_⟩
      · have : (n : Int).fdiv 8 ≤ n := by rw [Int.fdiv_eq_ediv_of_nonneg _ (by omega)]; omega
        show 2 + (n : Int).fdiv 8 ≤ 1099511627776
        omega
      have hn8 : (n : Int).fdiv 8 ≤ 3 := by rw [Int.fdiv_eq_ediv_of_nonneg _ (by omega)]; omega
      have hn0 : 0 ≤ (n : Int).fdiv 8 := by rw [Int.fdiv_eq_ediv_of_nonneg _ (by omega)]; omega
      obtain ⟨g, rfl, hg⟩ := draw_nt (by show 0 < 2 + (n : Int).fdiv 8; omega) rr1 rr2
      have hg : (g : Int) < 2 + (n : Int).fdiv 8 := hg
      refine ⟨_, _, rfl, rfl, ((1 + g : Nat) : Int), by rw [show ((1 + g : Nat) : Int) = 1 + (g : Int) by omega], by omega, by omega, ?_⟩
      rw [toNat_k]
      refine for_it walk_range (fun j σ' H' => ∃ (A : Addr) (r : List Nat) (x6 x7 x8 x9 x10 : Option V), σ' = [some (.ref d), some (nV n), some (nV m), some (.ref L), some x, some (.ref A), x6, x7, x8, x9, x10] ∧ Kp d H H' ∧ DI d l H' ∧ H' L = some (.lst rows) ∧ LV (RwX d L H') rows R ∧ A ≠ d ∧ A ≠ L ∧ H' A = some (.lst (r.map nV)) ∧ RowOk n r ∧ Nst n r1 r)
        ⟨A, r1, _, _, _, _, _, rfl, k5.trans k6, D6, k6 _ _ nLd.1 eL5, lv5.mono fun _ _ z => z.kp k6, nAd.1, nLA.symm, k6 _ _ nAd.1 eA5, ro, fun _ _ _ _ e => e⟩ (fun _ _ _ _ _ => trivial) ?_ ?_
      · rintro j y σ' H7 H8 hj ⟨A, r, x6, x7, x8, x9, x10, rfl, k7, D7, eL7, lv7, nAd, nAL, eA7, ro, hn1⟩ ⟨rfl, hy⟩
        have lr := ro.1
        refine ⟨_, rfl, _, rfl, d, l, .ref A, _, rfl, D7, .inl ⟨A, rfl, nAd, SqL.of eA7⟩, by rw [List.length_map]; omega, by rw [List.length_map]; omega, fun H9 v k9 D9 hv => ?_⟩
        obtain ⟨o1, ho1, rfl⟩ := List.mem_map.mp hv
        refine ⟨_, rfl, _, rfl, d, l, .ref A, _, rfl, D9, .inl ⟨A, rfl, nAd, SqL.of (k9 _ _ nAd eA7)⟩, by rw [List.length_map]; omega, by rw [List.length_map]; omega, fun H10 v k10 D10 hv => ?_⟩
        obtain ⟨o2, ho2, rfl⟩ := List.mem_map.mp hv
        have k710 := k9.trans k10
        have eA10 := k710 _ _ nAd eA7
        refine ⟨_, rfl, A, rfl, ⟨_, SqL.of eA10⟩, fun D nD => ?_⟩
        have nDd := D10.nd nD
        have eL10 := k710 _ _ nLd.1 eL7
        have nLD : L ≠ D := ne_of_none eL10 nD
        refine lc_it (walk_list (K := K) (a := A) (xs := r.map nV)) (fun i H' => ∃ s : List Nat, H' D = some (.lst (s.map nV)) ∧ s.length = i ∧ (∀ x ∈ s, x < n) ∧ s = (r.take i).map (fun x => if x = o1 then o2 else x) ∧ Kp d H10 H' ∧ DI d l H') ⟨[], upd_same, rfl, (fun _ h => nomatch h), rfl, (Kp.refl d H10).new nD, D10.new nD⟩ ?_ ?_ ?_
        · rintro i H' _ ⟨_, _, _, _, _, k, _⟩
          exact SqL.of (k _ _ nAd eA10)
        · rintro i x H11 H12 hi ⟨s, eD, ls, hs, es, k11, D11⟩ ⟨rfl, hx⟩
          rw [List.length_map] at hi
          rw [nat_at hi] at hx
          have hx := Option.some.inj hx
          subst hx
          have hxi := ro.2 _ (getD_mem (d := 0) hi)
          refine ⟨rfl, ?_⟩
          refine ⟨_, o2, o1, rfl, rfl, rfl, ?_⟩
          have hu : (if r.getD i 0 = o1 then o2 else r.getD i 0) < n := by
            split
            · exact ro.2 _ ho2
            · exact hxi
          have es2 : s ++ [if r.getD i 0 = o1 then o2 else r.getD i 0] = (r.take (i + 1)).map (fun x => if x = o1 then o2 else x) := by
            rw [es, take_oneD 0 hi, List.map_append]; rfl
          generalize (if r.getD i 0 = o1 then o2 else r.getD i 0) = u at hu es2
          refine ⟨_, eD, szN (by rw [List.length_map]; omega), s ++ [u], by rw [upd_same, List.map_append]; rfl, by rw [List.length_append, ls]; rfl, fun x hx => ?_, es2, k11.mut nD, D11.at nDd.1 nDd.2⟩
          rcases List.mem_append.mp hx with h | h
          · exact hs x h
          · rw [List.mem_singleton.mp h]; exact hu
        · rintro H11 ⟨s, eD, ls, hs, es, k11, D11⟩
          rw [List.length_map] at ls
          exact ⟨D, s, _, _, _, _, _, rfl, (k7.trans k710).trans k11, D11, k11 _ _ nLd.1 eL10, lv7.mono fun _ _ z => z.kp (k710.trans k11), nDd.1, nLD.symm, eD, ⟨by omega, hs⟩, by rw [es, List.length_map, List.take_length]; exact hn1.map _ lr⟩
      · rintro σ' H7 ⟨A, r, x6, x7, x8, x9, x10, rfl, k7, D7, eL7, lv7, nAd, nAL, eA7, ro, hn1⟩
        refine ⟨.ref L, rfl, .inl ⟨rfl, _, .inl (.inl eL7)⟩, _, rfl, L, rows, _, rfl, rfl, eL7, szN (by rw [lv.1]; omega), ?_⟩
        refine ⟨rows ++ [.ref A], R ++ [r], _, _, _, _, _, _, _, rfl, k7.mut nLH, D7.at nLd.1 nLd.2, upd_same, (lv7.snoc ⟨A, rfl, nAd, nAL, eA7⟩).mono fun _ _ z => z.at, by rw [List.length_append, lR]; rfl, fun q hq => ?_, hN1 _ hn1⟩
        rcases List.mem_append.mp hq with h | h
        · exact hR q h
        · rw [List.mem_singleton.mp h]; exact ro
    · rintro σ' H3 ⟨rows, R, x4, x5, x6, x7, x8, x9, x10, rfl, k4, D4, eL4, lv, lR, hR, hN⟩
      have lR : R.length = m := by omega
      obtain ⟨lv1, el, ra, rfl, nad, naL, era⟩ := lv.get0 (i := rows.length - 1) [] (by rw [lv.1]; omega)
      have ro := hR _ (getD_mem (xs := R) (i := rows.length - 1) (d := []) (by rw [lv.1]; omega))
      generalize R.getD (rows.length - 1) [] = r1 at era ro
      have lr := ro.1
      refine ⟨_, rfl, (n : Int), rfl, by omega, by omega, ?_⟩
      rw [toNat_k]
      refine fun D nD => ?_
      have nDd := D4.nd nD
      have nLD : L ≠ D := ne_of_none eL4 nD
      have hc0 := ro.2 _ (getD_mem (xs := r1) (i := 0) (d := 0) (by omega))
      refine lc_it walk_range (fun i H' => ∃ s : List Nat, H' D = some (.lst (s.map nV)) ∧ s = List.replicate i (r1.getD 0 0) ∧ Same H3 H') ⟨[], upd_same, rfl, same_upd (Same.refl H3) nD⟩ (fun _ _ _ _ => trivial) ?_ ?_
      · rintro i x H4 H5 hi ⟨s, eD, hs, k5⟩ ⟨rfl, hx⟩
        refine ⟨rfl, ?_⟩
        refine ⟨_, rfl, _, rfl, L, _, _, _, rfl, rfl, SqL.of (k5 _ _ eL4), atI_l el, ra, _, _, _, rfl, rfl, SqL.of (k5 _ _ era), atI_nat (nat_at (i := 0) (by omega)), ?_⟩
        refine ⟨_, eD, szN (by rw [List.length_map, hs, List.length_replicate]; omega), s ++ [r1.getD 0 0], by rw [upd_same, List.map_append]; rfl, by rw [hs]; exact List.replicate_succ'.symm, same_mut k5 nD⟩
      · rintro H4 ⟨s, eD, hs0, k5⟩
        have ls : s.length = n := by rw [hs0, List.length_replicate]
        have hs : ∀ x ∈ s, x < n := fun x hx => by rw [hs0] at hx; rw [(List.mem_replicate.mp hx).2]; exact hc0
        have eL5 := k5 _ _ eL4
        refine ⟨_, rfl, _, rfl, L, rows, _, rows.length - 1, rfl, rfl, eL5, ixN_last (by rw [lv.1]; omega), ?_⟩
        have kd : Kp d H3 H4 := fun b o _ e => k5 _ _ e
        refine ⟨_, rfl, q _ L (rows.set (rows.length - 1) (.ref D)) (R.set (rows.length - 1) s) ((k4.trans kd).mut nLH) ((D4.keep k5).at nLd.1 nLd.2) nLd.1 upd_same ?_ (by rw [List.length_set]; exact lR) (fun r hr => ?_) ⟨⟨r1.getD 0 0, fun k hk => ?_⟩, by rw [lv.1]; exact hN.last (s := s) fun a b ha hb => by rw [hs0, getD_of (List.getElem?_replicate_of_lt ha), getD_of (List.getElem?_replicate_of_lt hb)]⟩⟩
        · exact (LV.set _ (lv.mono fun _ _ z => z.kp kd) ⟨D, rfl, nDd.1, nLD.symm, eD⟩).mono fun _ _ z => z.at
        · rcases List.mem_or_eq_of_mem_set hr with h | h
          · exact hR r h
          · rw [h]; exact ⟨by omega, hs⟩
        · rw [List.length_set, lv.1]
          have eg : (R.set (R.length - 1) s).getD (R.length - 1) [] = s := getD_of (by rw [List.getElem?_set, if_pos rfl, if_pos (by omega)])
          rw [eg, hs0, getD_of (List.getElem?_replicate_of_lt hk)]
end
end Vf

set_option Elab.async false
set_option linter.all false
set_option maxRecDepth 100000
set_option maxHeartbeats 4000000
namespace Vf
open PySem PySem.Spec PyProof.Rows L2 TL
/-- the chain of rows -/
def ChV (d : Addr) (n : Nat) (H : Hp) (ch : Addr) (R : List (List Nat)) : Prop := ch ≠ d ∧ ∃ rows, H ch = some (.lst rows) ∧ LV (RwX d ch H) rows R ∧ 1 ≤ R.length ∧ R.length ≤ 8 ∧ ∀ r ∈ R, RowOk n r
theorem ChV.kp {d : Addr} {n : Nat} {H H' : Hp} {ch : Addr} {R : List (List Nat)} (h : ChV d n H ch R) (k : Kp d H H') : ChV d n H' ch R := by
  obtain ⟨n1, rows, e, lv, a, b, c⟩ := h
  exact ⟨n1, rows, k _ _ n1 e, lv.mono fun _ _ z => z.kp k, a, b, c⟩
theorem Kp.of_same {d : Addr} {H H' : Hp} (k : Same H H') : Kp d H H' := fun b o _ e => k _ _ e
structure PlOk (n : Nat) (F C : List (List Nat)) : Prop where
  fl : F.length = n
  n1 : 1 ≤ n
  nn : n ≤ 24
  cl : C.length ≤ 6
  fm : ∀ f ∈ F, f.length = C.length ∧ ∀ s, s < C.length → f.getD s 0 < (C.getD s []).length
theorem PlOk.fs {n : Nat} {F C : List (List Nat)} (o : PlOk n F C) {ms : List Nat} {s : Nat} (hm : ∀ k ∈ ms, k < n) (hs : s < C.length) : FsOk C (ms.map fun k => F.getD k []) s := fun f hf => by
  obtain ⟨k, hk, rfl⟩ := List.mem_map.mp hf
  have ⟨a, b⟩ := o.fm _ (getD_mem (xs := F) (i := k) (d := []) (by rw [o.fl]; exact hm k hk))
  exact ⟨by rw [a]; exact hs, b s hs⟩
theorem min_nat (a b : Nat) : (if (b : Int) < (a : Int) then (b : Int) else (a : Int)) = ((if b < a then b else a : Nat) : Int) := by
  by_cases c : b < a
  · rw [if_pos c, if_pos (by omega)]
  · rw [if_neg c, if_neg (by omega)]
section
variable {P : Program} {w : World} {K : PySem.W.Frag} {mg : Str → Option Value} {base : Heap}
def spPLeast : Sp := fun vs H Q _ => ∃ (d l : Addr) (cv fv : V) (ia : Addr) (s : Nat) (ch : Addr) (n : Nat) (F C R : List (List Nat)) (ms : List Nat), vs = [.ref d, cv, fv, .ref ia, nV s, .ref ch] ∧ DI d l H ∧ TupR NsR H cv C ∧ TupR NsR H fv F ∧ PlOk n F C ∧ ChV d n H ch R ∧ ia ≠ d ∧ H ia = some (.lst (ms.map nV)) ∧ 1 ≤ ms.length ∧ ms.length ≤ 24 ∧ (∀ k ∈ ms, k < n) ∧ s < C.length ∧
  ∀ H' x, Kp d H H' → DI d l H' → x ≤ waysL C (ms.map fun k => F.getD k []) s → Q (nV x) H'
theorem ok_pleast (T : Txt K mg) : FnOk P w K mg base CX0 3 T.a_law_plan_least T.d_law_plan_least ["_law_d", "_law_counts", "_law_fillings", "_law_inside", "_law_s", "_law_chain"] spPLeast := by
  have G_law_draw : FnOk P w K mg base CX0 1 T.a_law_draw T.d_law_draw ["_law_d", "_law_many"] spDraw := ok_draw T
  have G_law_pick : FnOk P w K mg base CX0 2 T.a_law_pick T.d_law_pick ["_law_d", "_law_row"] (spPick K) := ok_pick T
  have G_law_ways : FnOk P w K mg base CX0 1 T.a_law_ways T.d_law_ways ["_law_counts", "_law_fillings", "_law_secret"] (spWays K) := ok_ways T
  refine T.D_law_plan_least.F.ok sc_law_plan_least (fun vs H Q E h => ?_) (fun cdv A outer s H vs Q E hr h => ?_)
  · obtain ⟨d, l, cv, fv, ia, s, ch, n, F, C, R, ms, rfl, _⟩ := h
    rfl
  · obtain ⟨d, l, cv, fv, ia, s, ch, n, F, C, R, ms, rfl, hD, hC, hF, o, hch, nid, eia, m1, m24, hm, hs, q⟩ := h
    refine ⟨_, (pss_cons (ps_set (i := 6) sc_law_plan_least.nd rfl (.inl rfl) (pe_call G_law_ways (hr.mono (by decide)) (by rfl) T.D_law_ways.G T.D_law_ways.F.kp T.D_law_ways.B .nil pass0 (pa_cons (pv 1) (pa_cons (pe_lc (own := [("_law_k", 10)]) (g := gName 10) (tt := tYes) rfl sc_law_plan_least.nd (pi_list (pv 3)) (blkOk_by (own := [("_law_k", 10)]) (N := ["_law_d", "_law_counts", "_law_fillings", "_law_inside", "_law_s", "_law_chain", "_law_total", "_law_row", "_law_mark", "_law_near", "_law_k"]) (sc := (defScope s_law_plan_least)) (by decide +kernel)) (fun _ _ _ _ _ => (pg_name (i := 10) sc_law_plan_least.nd rfl (.inl rfl))) (fun _ _ _ _ _ => pts_nil) (fun _ _ _ _ _ => (pe_ix (r := rIxT K) ix_tup (pv 2) (pv 10) (fun _ _ => rfl)))) (pa_cons (pv 4) pa_nil)))))
      (pss_cons (ps_if (pt_cmpR op_eq (pe_call G_law_draw (hr.mono (by decide)) (by rfl) T.D_law_draw.G T.D_law_draw.F.kp T.D_law_draw.B .nil pass0 (pa_cons (pv 0) (pa_cons pe_int pa_nil))) pe_int (nomark _)) (pss_one (ps_ret (pe_callB (call_min2 (by rfl)) (by rfl) T.n_min (by decide +kernel) (pa_cons (pv 6) (pa_cons pe_int pa_nil))))) pss_nil)
      (pss_cons (ps_set (i := 7) sc_law_plan_least.nd rfl (.inr rfl) (pe_ix ix_list (pv 5) (pe_callB (call_min2 (by rfl)) (by rfl) T.n_min (by decide +kernel) (pa_cons (pe_call G_law_draw (hr.mono (by decide)) (by rfl) T.D_law_draw.G T.D_law_draw.F.kp T.D_law_draw.B .nil pass0 (pa_cons (pv 0) (pa_cons (pe_callB call_len_seq (by rfl) T.n_len PySem.boot_len (pa_cons (pv 5) pa_nil)) pa_nil))) (pa_cons (pe_call G_law_draw (hr.mono (by decide)) (by rfl) T.D_law_draw.G T.D_law_draw.F.kp T.D_law_draw.B .nil pass0 (pa_cons (pv 0) (pa_cons (pe_callB call_len_seq (by rfl) T.n_len PySem.boot_len (pa_cons (pv 5) pa_nil)) pa_nil))) pa_nil))) (fun _ _ => rfl)))
      (pss_cons (ps_set (i := 8) sc_law_plan_least.nd rfl (.inr rfl) (pe_ix ix_list (pv 7) (pe_call G_law_pick (hr.mono (by decide)) (by rfl) T.D_law_pick.G T.D_law_pick.F.kp T.D_law_pick.B .nil pass0 (pa_cons (pv 0) (pa_cons (pv 3) pa_nil))) (fun _ _ => rfl)))
      (pss_cons (ps_setLc (i := 9) (own := [("_law_k", 10)]) (g := gName 10) rfl sc_law_plan_least.nd rfl rfl (sw_true rfl rfl rfl (by decide +kernel)) (pi_list (pv 3)) (blkOk_by (own := [("_law_k", 10)]) (N := ["_law_d", "_law_counts", "_law_fillings", "_law_inside", "_law_s", "_law_chain", "_law_total", "_law_row", "_law_mark", "_law_near", "_law_k"]) (sc := (defScope s_law_plan_least)) (by decide +kernel)) (fun _ _ _ _ _ => (pg_name (i := 10) sc_law_plan_least.nd rfl (.inl rfl))) (fun _ _ _ _ _ => (pts_one (pt_cmpR op_eq (pe_ix (r := rIxL K) ix_list (pv 7) (pv 10) (fun _ _ => rfl)) (pv 8) (nomark _)))) (fun _ _ _ _ _ => (pe_ix (r := rIxT K) ix_tup (pv 2) (pv 10) (fun _ _ => rfl))))
      (pss_one (ps_ret (pe_callB (call_min2 (by rfl)) (by rfl) T.n_min (by decide +kernel) (pa_cons (pv 6) (pa_cons (pe_op op_add (pe_call G_law_ways (hr.mono (by decide)) (by rfl) T.D_law_ways.G T.D_law_ways.F.kp T.D_law_ways.B .nil pass0 (pa_cons (pv 1) (pa_cons (pv 9) (pa_cons (pv 4) pa_nil)))) (pe_call G_law_draw (hr.mono (by decide)) (by rfl) T.D_law_draw.G T.D_law_draw.F.kp T.D_law_draw.B .nil pass0 (pa_cons (pv 0) (pa_cons pe_int pa_nil)))) pa_nil)))))))))), ?_⟩
    obtain ⟨fa, fus, rfl, efa, lF⟩ := id hF
    have ofl := o.fl
    have onn := o.nn
    refine ⟨_, rfl, _, rfl, ia, rfl, ⟨_, SqL.of eia⟩, fun D nD => ?_⟩
    refine lc_it (walk_list (K := K) (a := ia) (xs := ms.map nV)) (fun i H' => ∃ us, H' D = some (.lst us) ∧ LV (NsR H) us ((ms.take i).map fun k => F.getD k []) ∧ Same H H') ⟨[], upd_same, LV.nil, same_upd (Same.refl H) nD⟩ ?_ ?_ ?_
    · rintro i H' _ ⟨_, _, _, k⟩
      exact SqL.of (k _ _ eia)
    · rintro i x H1 H2 hi ⟨us, eD, lv, k⟩ ⟨rfl, hx⟩
      rw [List.length_map] at hi
      rw [nat_at hi] at hx
      have hx := Option.some.inj hx
      subst hx
      have hk : ms.getD i 0 < n := hm _ (getD_mem hi)
      obtain ⟨fx, efx, hfx⟩ := lF.get0 (i := ms.getD i 0) [] (by omega)
      have lu := lv.1
      rw [List.length_map, List.length_take] at lu
      refine ⟨rfl, ?_⟩
      refine ⟨_, rfl, _, rfl, fa, _, _, _, rfl, rfl, SqT.of (k _ _ efa), atI_nat efx, ?_⟩
      refine ⟨us, eD, szN (by omega), us ++ [fx], upd_same, ?_, same_mut k nD⟩
      rw [take_oneD 0 hi, List.map_append]
      exact lv.snoc hfx
    · rintro H1 ⟨us, eD, lv, k1⟩
      rw [List.length_map, List.take_length] at lv
      refine ⟨_, rfl, cv, D, us, C, _, s, rfl, (TupR.mn NsR.mn).to hC (TK.same k1), eD, lv.mono fun _ _ z => NsR.mn.to z (TK.same k1), hs, o.fs hm hs, by rw [List.length_map]; omega, fun H2 k2 => ?_⟩
      generalize waysL C (ms.map fun k => F.getD k []) s = tot at q ⊢
      have k12 := k1.trans k2
      have D2 := hD.keep k12
      refine ⟨_, rfl, d, l, 4, rfl, D2, by decide, fun H3 r k3 D3 _ _ => ?_⟩
      refine ⟨rfl, _, rfl, ite2 (fun _ => ?_) (fun _ => ?_)⟩
      · refine ⟨_, rfl, (tot : Int), 2, rfl, ?_⟩
        have e : V.int (if (2 : Int) < (tot : Int) then 2 else (tot : Int)) = nV (if 2 < tot then 2 else tot) := congrArg V.int (min_nat tot 2)
        have e2 : Q (V.int (if (2 : Int) < (tot : Int) then 2 else (tot : Int))) H3 := by rw [e]; exact q H3 _ ((Kp.of_same k12).trans k3) D3 (by split <;> omega)
        exact e2
      · have k03 := (Kp.of_same k12).trans k3
        obtain ⟨nch, rows, ech, lR, R1, R8, hR⟩ := hch.kp k03
        have lr := lR.1
        refine ⟨_, rfl, _, rfl, _, rfl, ch, _, rfl, .inl (SqL.of ech), d, l, _, rfl, D3, by show (rows.length : Int) ≤ _; omega, fun H4 r4 k4 D4 r1 r2 => ?_⟩
        obtain ⟨a, rfl, ha⟩ := draw_nt (by show (0 : Int) < (rows.length : Int); omega) r1 r2
        have ech4 := k4 _ _ nch ech
        refine ⟨_, rfl, _, rfl, ch, _, rfl, .inl (SqL.of ech4), d, l, _, rfl, D4, by show (rows.length : Int) ≤ _; omega, fun H5 r5 k5 D5 r1 r2 => ?_⟩
        obtain ⟨b, rfl, hb⟩ := draw_nt (by show (0 : Int) < (rows.length : Int); omega) r1 r2
        have ha : (a : Int) < (rows.length : Int) := ha
        have hb : (b : Int) < (rows.length : Int) := hb
        have hc : (if b < a then b else a) < R.length := by split <;> omega
        obtain ⟨rv, erv, ra, rfl, nad, nac, era⟩ := lR.get0 [] hc
        have ro := hR _ (getD_mem (xs := R) (d := []) hc)
        have ech5 := k5 _ _ nch ech4
        have k35 := k4.trans k5
        refine ⟨(a : Int), (b : Int), rfl, ch, rows, _, _, rfl, rfl, SqL.of ech5, by rw [min_nat]; exact atI_nat erv, ?_⟩
        generalize R.getD (if b < a then b else a) [] = row at era ro
        have lrow := ro.1
        have k05 := k03.trans k35
        have eia5 := k05 _ _ nid eia
        refine ⟨_, rfl, _, rfl, _, rfl, d, l, .ref ia, _, rfl, D5, .inl ⟨ia, rfl, nid, SqL.of eia5⟩, by rw [List.length_map]; omega, by rw [List.length_map]; omega, fun H6 v k6 D6 hv => ?_⟩
        obtain ⟨p, hp, rfl⟩ := List.mem_map.mp hv
        have hpn := hm p hp
        have era6 := k6 _ _ nad (k35 _ _ nad era)
        have k06 := k05.trans k6
        have t06 := kpTup hD k06
        have eia6 := k06 _ _ nid eia
        refine ⟨ra, _, _, _, rfl, rfl, SqL.of era6, atI_nat (nat_at (i := p) (by omega)), ?_⟩
        refine ⟨_, rfl, ia, rfl, ⟨_, SqL.of eia6⟩, fun D nD => ?_⟩
        refine lc_it (walk_list (K := K) (a := ia) (xs := ms.map nV)) (fun i H' => ∃ us fs, H' D = some (.lst us) ∧ LV (NsR H) us (fs.map fun k => F.getD k []) ∧ (∀ k ∈ fs, k < n) ∧ fs.length ≤ i ∧ Same H6 H') ⟨[], [], upd_same, LV.nil, (fun _ h => nomatch h), Nat.le_refl _, same_upd (Same.refl H6) nD⟩ ?_ ?_ ?_
        · rintro i H' _ ⟨_, _, _, _, _, _, k⟩
          exact SqL.of (k _ _ eia6)
        · rintro i x H7 H8 hi ⟨us, fs, eD, lv, hf, lf, k⟩ ⟨rfl, hx⟩
          rw [List.length_map] at hi
          rw [nat_at hi] at hx
          have hx := Option.some.inj hx
          subst hx
          have hk : ms.getD i 0 < n := hm _ (getD_mem hi)
          obtain ⟨fx, efx, hfx⟩ := lF.get0 (i := ms.getD i 0) [] (by omega)
          have lu := lv.1
          rw [List.length_map] at lu
          refine ⟨rfl, ?_⟩
          refine ⟨_, rfl, _, rfl, ra, _, _, _, rfl, rfl, SqL.of (k _ _ era6), atI_nat (nat_at (by omega)), _, rfl, rfl, ?_⟩
          by_cases c : row.getD (ms.getD i 0) 0 = row.getD p 0
          · refine ⟨true, bTr (congrArg nV c), ?_⟩
            refine ⟨_, rfl, _, rfl, fa, _, _, _, rfl, rfl, SqT.of (k _ _ (t06 _ _ efa)), atI_nat efx, ?_⟩
            refine ⟨us, eD, szN (by omega), us ++ [fx], fs ++ [ms.getD i 0], upd_same, ?_, fun x hx => ?_, by rw [List.length_append]; exact Nat.succ_le_succ lf, same_mut k nD⟩
            · rw [List.map_append]; exact lv.snoc hfx
            · rcases List.mem_append.mp hx with h | h
              · exact hf x h
              · rw [List.mem_singleton.mp h]; exact hk
          · exact ⟨false, bFa (fun z => c (nV_inj z)), us, fs, eD, lv, hf, by omega, k⟩
        · rintro H7 ⟨us, fs, eD, lv, hf, lf, k7⟩
          rw [List.length_map] at lf
          have t07 : TK H H7 := fun a xs e => k7 _ _ (t06 a xs e)
          have D7 := D6.keep k7
          refine ⟨_, rfl, _, rfl, _, rfl, _, rfl, cv, D, us, C, _, s, rfl, (TupR.mn NsR.mn).to hC t07, eD, lv.mono fun _ _ z => NsR.mn.to z t07, hs, o.fs hf hs, by rw [List.length_map]; omega, fun H8 k8 => ?_⟩
          have D8 := D7.keep k8
          generalize waysL C (fs.map fun k => F.getD k []) s = nr
          refine ⟨_, rfl, d, l, 2, rfl, D8, by decide, fun H9 r k9 D9 r1 r2 => ?_⟩
          obtain ⟨g, rfl, hg⟩ := draw_nt (by decide) r1 r2
          refine ⟨_, _, rfl, rfl, (tot : Int), ((nr + g : Nat) : Int), rfl, ?_⟩
          have e : V.int (if ((nr + g : Nat) : Int) < (tot : Int) then ((nr + g : Nat) : Int) else (tot : Int)) = nV (if nr + g < tot then nr + g else tot) := congrArg V.int (min_nat tot (nr + g))
          have e2 : Q (V.int (if ((nr + g : Nat) : Int) < (tot : Int) then ((nr + g : Nat) : Int) else (tot : Int))) H9 := by
            rw [e]
            exact q H9 _ (k06.trans (((Kp.of_same k7).trans (Kp.of_same k8)).trans k9)) D9 (by split <;> omega)
          exact e2
end
end Vf

set_option Elab.async false
set_option linter.all false
set_option maxRecDepth 100000
set_option maxHeartbeats 4000000
namespace Vf
open PySem PySem.Spec PyProof.Rows L2 TL
def valS (m : Nat) : Str := ("v" : Str) ++ (toString ((m : Nat) : Int))
def hashS (m : Nat) : Str := Txt.mul ("#" : Str) ((m : Nat) : Int) ++ ("." : Str)
def valD : Nat → Nat → PyData
  | 0, m => .int (m : Int)
  | 1, m => .str (valS m)
  | 2, m => .tuple [.tuple [.str (hashS m)]]
  | _, m => ([PyData.none, .int 0, .str "", .tuple [], .tuple [.int 0], .tuple [.tuple []], .str "0", .int 1]).getD m (.int (m : Int))
theorem valS_len : ∀ m, m < 24 → ("v" : Str).length + (toString ((m : Nat) : Int) : Str).length ≤ 100 := by decide +kernel
theorem hash_len : ∀ m, m < 24 → (Txt.mul ("#" : Str) ((m : Nat) : Int)).length + ("." : Str).length ≤ 100 := by decide +kernel
theorem hash_ok {m : Nat} (h : m < 24) : MulOk ("#" : Str) ((m : Nat) : Int) := mulOk_of 1 24 (by decide +kernel) (by omega) (by omega) (by decide) (by decide)
theorem valD_eq : ∀ k, k < 4 → ∀ a, a < 24 → ∀ b, b < 24 → PyData.eqv (valD k a) (valD k b) = decide (a = b) := by decide +kernel
theorem valD_ok : ∀ k, k < 4 → ∀ a, a < 24 → (valD k a).canLay0 = true ∧ (valD k a).depth ≤ 2 := by decide +kernel
theorem op_mul_str {X : Cx} : OpR X (binaryOp .Mult) (fun x y H Q => ∃ z n, x = .str z ∧ y = .int n ∧ MulOk z n ∧ Q (.str (Txt.mul z n)) H) := by
  intro pins s σ H x y v u Q I rx ry h
  obtain ⟨z, n, rfl, rfl, hm, q⟩ := h
  obtain ⟨t, rfl⟩ := rx
  obtain ⟨t', rfl⟩ := ry
  exact SB.mul hm fun t' k => ⟨.str (Txt.mul z n), H, I.tok _, ⟨_, rfl⟩, q⟩
def tKind : TE := fun σ H Q => ∃ (d l : Addr) (f al : Nat), σ[0]? = some (some (.ref d)) ∧ σ[2]? = some (some (nV f)) ∧ σ[3]? = some (some (nV al)) ∧ f < 4 ∧ DI d l H ∧ ∀ (H' : Hp) (k : Nat), Kp d H H' → DI d l H' → k < 4 → Q (nV k) H'
def vwL (ks : List Nat) (R : List (List Nat)) (n : Nat) : List (List PyData) := (List.range n).map fun k => (List.range R.length).map fun lv => valD (ks.getD lv 0) ((R.getD lv []).getD k 0)
theorem vwL_ok {ks : List Nat} {R : List (List Nat)} {n : Nat} (hn : n ≤ 24) (hk : ∀ lv, lv < R.length → ks.getD lv 0 < 4) (hR : ∀ r ∈ R, RowOk n r) : VwOk n R.length (vwL ks R n) := by
  refine ⟨by unfold vwL; rw [List.length_map, List.length_range], fun r hr => ?_⟩
  obtain ⟨k, hk1, rfl⟩ := List.mem_map.mp hr
  have hk1 := List.mem_range.mp hk1
  refine ⟨by rw [List.length_map, List.length_range], fun d hd => ?_⟩
  obtain ⟨lv, hl, rfl⟩ := List.mem_map.mp hd
  have hl := List.mem_range.mp hl
  have ro := hR _ (getD_mem (xs := R) (d := []) hl)
  have : (R.getD lv []).getD k 0 < n := ro.2 _ (getD_mem (by rw [ro.1]; exact hk1))
  exact valD_ok _ (hk lv hl) _ (by omega)
theorem vwL_dat {ks : List Nat} {R : List (List Nat)} {n k lv : Nat} (hk : k < n) (hl : lv < R.length) : dat (vwL ks R n) k lv = valD (ks.getD lv 0) ((R.getD lv []).getD k 0) := by
  unfold dat vwL
  rw [getD_of (x := (List.range R.length).map fun lv => valD (ks.getD lv 0) ((R.getD lv []).getD k 0)) (by rw [List.getElem?_map, List.getElem?_range hk]; rfl), getD_of (by rw [List.getElem?_map, List.getElem?_range hl]; rfl)]
/-- equal values have equal marks -/
theorem vwL_eq {ks : List Nat} {R : List (List Nat)} {n a b lv : Nat} (hn : n ≤ 24) (hk : ∀ lv, lv < R.length → ks.getD lv 0 < 4) (hR : ∀ r ∈ R, RowOk n r) (ha : a < n) (hb : b < n) (hl : lv < R.length) :
    PyData.eqv (dat (vwL ks R n) a lv) (dat (vwL ks R n) b lv) = decide ((R.getD lv []).getD a 0 = (R.getD lv []).getD b 0) := by
  have ro := hR _ (getD_mem (xs := R) (d := []) hl)
  have h1 : (R.getD lv []).getD a 0 < n := ro.2 _ (getD_mem (by rw [ro.1]; exact ha))
  have h2 : (R.getD lv []).getD b 0 < n := ro.2 _ (getD_mem (by rw [ro.1]; exact hb))
  rw [vwL_dat ha hl, vwL_dat hb hl]
  exact valD_eq _ (hk lv hl) _ (by omega) _ (by omega)
section
variable {P : Program} {w : World} {K : PySem.W.Frag} {mg : Str → Option Value} {base : Heap}
def spValue : Sp := fun vs H Q _ => ∃ (k m : Nat), vs = [nV k, nV m] ∧ k < 4 ∧ m < 24 ∧ ∀ H' v, Same H H' → Td H' v (valD k m) → Q v H'
theorem ok_value (T : Txt K mg) : FnOk P w K mg base CX0 1 T.a_law_plan_value T.d_law_plan_value ["_law_kind", "_law_mark"] spValue := by
  refine T.D_law_plan_value.F.ok sc_law_plan_value (fun vs H Q E h => ?_) (fun cdv A outer s H vs Q E hr h => ?_)
  · obtain ⟨k, m, rfl, _⟩ := h
    rfl
  · obtain ⟨k, m, rfl, hk, hm, q⟩ := h
    refine ⟨_, (pss_cons (ps_if (pt_cmpR op_eq (pv 0) pe_int (nomark _)) (pss_one (ps_ret (pv 1))) pss_nil)
      (pss_cons (ps_if (pt_cmpR op_eq (pv 0) pe_int (nomark _)) (pss_one (ps_ret (pe_op op_add_str pe_str (pe_callTy call_str_int (by rfl) T.n_str (by decide +kernel) (pa_cons (pv 1) pa_nil))))) pss_nil)
      (pss_cons (ps_if (pt_cmpR op_eq (pv 0) pe_int (nomark _)) (pss_one (ps_ret (pe_tup (pa_cons (pe_tup (pa_cons (pe_op op_add_str (pe_op op_mul_str pe_str (pv 1)) pe_str) pa_nil)) pa_nil)))) pss_nil)
      (pss_cons (ps_set (i := 2) sc_law_plan_value.nd rfl (.inl rfl) (pe_lst (pa_cons pe_non (pa_cons pe_int (pa_cons pe_str (pa_cons (pe_tup pa_nil) (pa_cons (pe_tup (pa_cons pe_int pa_nil)) (pa_cons (pe_tup (pa_cons (pe_tup pa_nil) pa_nil)) (pa_cons pe_str (pa_cons pe_int pa_nil))))))))))
      (pss_cons (ps_if (pt_cmpR op_lt (pv 1) (pe_callB call_len_seq (by rfl) T.n_len PySem.boot_len (pa_cons (pv 2) pa_nil)) (nomark _)) (pss_one (ps_ret (pe_ix ix_list (pv 2) (pv 1) (fun _ _ => rfl)))) pss_nil)
      (pss_one (ps_ret (pv 1)))))))), ?_⟩
    refine ⟨_, rfl, rfl, _, rfl, ?_⟩
    have en : ∀ i : Nat, (nV k = V.int (i : Int)) ↔ k = i := fun i => ⟨fun z => nV_inj z, fun z => by rw [z]; rfl⟩
    refine ite2 (fun c => ?_) (fun c0 => ?_)
    · have c := (en 0).mp (of_decide_eq_true c)
      subst c
      exact ⟨_, rfl, q H _ (Same.refl H) (.int _)⟩
    have c0 : k ≠ 0 := fun z => c0 (decide_eq_true ((en 0).mpr z))
    refine ⟨_, rfl, rfl, _, rfl, ?_⟩
    refine ite2 (fun c => ?_) (fun c1 => ?_)
    · have c := (en 1).mp (of_decide_eq_true c)
      subst c
      have hl := valS_len m hm
      refine ⟨_, rfl, (m : Int), rfl, ?_, _, _, rfl, rfl, Nat.le_trans hl (by decide), q H _ (Same.refl H) (.str _)⟩
      exact Nat.lt_of_le_of_lt (Nat.log2_le_self _) (by rw [Int.natAbs_natCast]; omega)
    have c1 : k ≠ 1 := fun z => c1 (decide_eq_true ((en 1).mpr z))
    refine ⟨_, rfl, rfl, _, rfl, ?_⟩
    refine ite2 (fun c => ?_) (fun c2 => ?_)
    · have c := (en 2).mp (of_decide_eq_true c)
      subst c
      have hl := hash_len m hm
      refine ⟨_, rfl, _, _, rfl, rfl, hash_ok hm, _, _, rfl, rfl, Nat.le_trans hl (by decide), by show 1 ≤ sizeLine; decide, fun a na => ⟨by show 1 ≤ sizeLine; decide, fun b nb => ?_⟩⟩
      refine q _ _ (same_upd (same_upd (Same.refl H) na) nb) (.tup upd_same (.cons (.tup ?_ (.cons (.str _) .nil)) .nil))
      rw [upd_ne (ne_of_none upd_same nb)]; exact upd_same
    have c2 : k ≠ 2 := fun z => c2 (decide_eq_true ((en 2).mpr z))
    have c3 : k = 3 := by omega
    subst c3
    refine ⟨by show 0 ≤ sizeLine; decide, fun a na => ⟨by show 1 ≤ sizeLine; decide, fun b nb => ⟨by show 0 ≤ sizeLine; decide, fun c nc => ⟨by show 1 ≤ sizeLine; decide, fun e ne => ?_⟩⟩⟩⟩
    have s1 := same_upd (o := .tup []) (Same.refl H) na
    have t1 : Td (upd H a (.tup [])) (.ref a) (.tuple []) := .tup upd_same .nil
    generalize upd H a (.tup []) = H1 at s1 t1 nb nc ne ⊢
    have s2 := same_upd (o := .tup [V.int 0]) s1 nb
    have t1 := Td.to (TK.new (o := .tup [V.int 0]) (TK.refl _) nb) t1
    have t2 : Td (upd H1 b (.tup [V.int 0])) (.ref b) (.tuple [.int 0]) := .tup upd_same (.cons (.int _) .nil)
    generalize upd H1 b (.tup [V.int 0]) = H2 at s2 t1 t2 nc ne ⊢
    have s3 := same_upd (o := .tup []) s2 nc
    have t1 := Td.to (TK.new (o := .tup []) (TK.refl _) nc) t1
    have t2 := Td.to (TK.new (o := .tup []) (TK.refl _) nc) t2
    have t3 : Td (upd H2 c (.tup [])) (.ref c) (.tuple []) := .tup upd_same .nil
    generalize upd H2 c (.tup []) = H3 at s3 t1 t2 t3 ne ⊢
    have s4 := same_upd (o := .tup [V.ref c]) s3 ne
    have t1 := Td.to (TK.new (o := .tup [V.ref c]) (TK.refl _) ne) t1
    have t2 := Td.to (TK.new (o := .tup [V.ref c]) (TK.refl _) ne) t2
    have t4 : Td (upd H3 e (.tup [V.ref c])) (.ref e) (.tuple [.tuple []]) := .tup upd_same (.cons (Td.to (TK.new (TK.refl _) ne) t3) .nil)
    generalize upd H3 e (.tup [V.ref c]) = H4 at s4 t1 t2 t4 ⊢
    have ta : TdAll H4 [.non, .int 0, .str "", .ref a, .ref b, .ref e, .str "0", .int 1] [PyData.none, .int 0, .str "", .tuple [], .tuple [.int 0], .tuple [.tuple []], .str "0", .int 1] :=
      .cons .non (.cons (.int _) (.cons (.str _) (.cons t1 (.cons t2 (.cons t4 (.cons (.str _) (.cons (.int _) .nil)))))))
    refine ⟨by show 8 ≤ sizeLine; decide, fun L nL => ?_⟩
    have s5 := same_upd (o := .lst [V.non, .int 0, .str "", .ref a, .ref b, .ref e, .str "0", .int 1]) s4 nL
    have ta := TdAll.to (TK.new (o := .lst [V.non, .int 0, .str "", .ref a, .ref b, .ref e, .str "0", .int 1]) (TK.refl _) nL) ta
    have eL : upd H4 L (.lst [V.non, .int 0, .str "", .ref a, .ref b, .ref e, .str "0", .int 1]) L = some (.lst [V.non, .int 0, .str "", .ref a, .ref b, .ref e, .str "0", .int 1]) := upd_same
    generalize upd H4 L (.lst [V.non, .int 0, .str "", .ref a, .ref b, .ref e, .str "0", .int 1]) = H5 at s5 ta eL ⊢
    refine ⟨_, rfl, _, rfl, L, _, rfl, .inl (SqL.of eL), _, _, rfl, rfl, _, rfl, ite2 (fun c => ?_) (fun c => ?_)⟩
    · have c := of_decide_eq_true c
      have m8 : m < 8 := by
        have c : (m : Int) < 8 := c
        omega
      obtain ⟨x, ex, hx⟩ := ta.lv.get0 (i := m) (.int (m : Int)) m8
      exact ⟨_, rfl, _, rfl, L, _, _, _, rfl, rfl, SqL.of eL, atI_nat ex, q H5 x s5 hx⟩
    · have m8 : 8 ≤ m := by
        have c : ¬ (m : Int) < 8 := fun z => c (decide_eq_true z)
        omega
      have ev : valD 3 m = .int (m : Int) := by
        show ([PyData.none, .int 0, .str "", .tuple [], .tuple [.int 0], .tuple [.tuple []], .str "0", .int 1]).getD m (.int (m : Int)) = _
        rw [List.getD_eq_getElem?_getD, List.getElem?_eq_none m8]; rfl
      refine ⟨_, rfl, q H5 (nV m) s5 ?_⟩
      rw [ev]; exact .int _
def spViews : Sp := fun vs H Q _ => ∃ (d l ch : Addr) (n : Nat) (R : List (List Nat)), vs = [.ref d, .ref ch] ∧ DI d l H ∧ ChV d n H ch R ∧ 1 ≤ n ∧ n ≤ 24 ∧
  ∀ H' v ks, Kp d H H' → DI d l H' → (∀ lv, lv < R.length → ks.getD lv 0 < 4) → VwR H' v (vwL ks R n) → Q v H'
theorem ok_views (T : Txt K mg) : FnOk P w K mg base CX0 2 T.a_law_plan_views T.d_law_plan_views ["_law_d", "_law_chain"] spViews := by
  have G_law_draw : FnOk P w K mg base CX0 1 T.a_law_draw T.d_law_draw ["_law_d", "_law_many"] spDraw := ok_draw T
  have G_law_plan_value : FnOk P w K mg base CX0 1 T.a_law_plan_value T.d_law_plan_value ["_law_kind", "_law_mark"] spValue := ok_value T
  refine T.D_law_plan_views.F.ok sc_law_plan_views (fun vs H Q E h => ?_) (fun cdv A outer s H vs Q E hr h => ?_)
  · obtain ⟨d, l, ch, n, R, rfl, _⟩ := h
    rfl
  · obtain ⟨d, l, ch, n, R, rfl, hD, hch, n1, n24, q⟩ := h
    refine ⟨_, (pss_cons (ps_set (i := 2) sc_law_plan_views.nd rfl (.inr rfl) (pe_call G_law_draw (hr.mono (by decide)) (by rfl) T.D_law_draw.G T.D_law_draw.F.kp T.D_law_draw.B .nil pass0 (pa_cons (pv 0) (pa_cons pe_int pa_nil))))
      (pss_cons (ps_set (i := 3) sc_law_plan_views.nd rfl (.inr rfl) (pe_call G_law_draw (hr.mono (by decide)) (by rfl) T.D_law_draw.G T.D_law_draw.F.kp T.D_law_draw.B .nil pass0 (pa_cons (pv 0) (pa_cons pe_int pa_nil))))
      (pss_cons (ps_set (i := 4) sc_law_plan_views.nd rfl (.inr rfl) (pe_lc (own := [("_law_row", 7)]) (g := gName 7) (tt := tYes) rfl sc_law_plan_views.nd (pi_list (pv 1)) (blkOk_by (own := [("_law_row", 7)]) (N := ["_law_d", "_law_chain", "_law_first", "_law_alike", "_law_kinds", "_law_views", "_law_k", "_law_row", "_law_level"]) (sc := (defScope s_law_plan_views)) (by decide +kernel)) (fun _ _ _ _ _ => (pg_name (i := 7) sc_law_plan_views.nd rfl (.inl rfl))) (fun _ _ _ _ _ => pts_nil) (fun _ _ _ _ _ => (PE.to (t' := tKind) (pe_ifExp (pt_cmpR op_eq (pv 3) pe_int (nomark _)) (pv 2) (pe_call G_law_draw (hr.mono (by decide)) (by rfl) T.D_law_draw.G T.D_law_draw.F.kp T.D_law_draw.B .nil pass0 (pa_cons (pv 0) (pa_cons pe_int pa_nil)))) (fun σ H Q h => by
      obtain ⟨d, l, f, al, e0, e2, e3, f4, hD, q⟩ := h
      refine ⟨_, e3, rfl, ?_⟩
      refine ⟨_, rfl, ite2 (fun _ => ?_) (fun _ => ?_)⟩
      · exact ⟨_, e2, q _ f (Kp.refl d _) hD f4⟩
      · refine ⟨_, e0, d, l, 4, rfl, hD, by decide, fun H1 r k1 D1 r1 r2 => ?_⟩
        obtain ⟨g, rfl, hg⟩ := draw_nt (by decide) r1 r2
        exact q _ g k1 D1 (by omega))))))
      (pss_cons (ps_set (i := 5) sc_law_plan_views.nd rfl (.inl rfl) (pe_lst pa_nil))
      (pss_cons (ps_for PassesOwn.never rfl (pi_range1 (by rfl) T.n_range (pa_cons (pe_callB call_len_seq (by rfl) T.n_len PySem.boot_len (pa_cons (pe_ix ix_list (pv 1) pe_int (fun _ _ => rfl)) pa_nil)) pa_nil)) (pg_name (i := 6) sc_law_plan_views.nd rfl (.inr rfl)) (pss_one (ps_expr (pe_bm PySem.F.plainAttrs_list PySem.F.slot_list_append PySem.F.type_list_append mt_append (pv 5) (pa_cons (pe_callTy call_tuple_of (by rfl) T.n_tuple (by decide +kernel) (pa_cons (pe_lc (own := [("_law_level", 8)]) (g := gName 8) (tt := tYes) rfl sc_law_plan_views.nd (pi_range1 (by rfl) T.n_range (pa_cons (pe_callB call_len_seq (by rfl) T.n_len PySem.boot_len (pa_cons (pv 1) pa_nil)) pa_nil)) (blkOk_by (own := [("_law_level", 8)]) (N := ["_law_d", "_law_chain", "_law_first", "_law_alike", "_law_kinds", "_law_views", "_law_k", "_law_row", "_law_level"]) (sc := (defScope s_law_plan_views)) (by decide +kernel)) (fun _ _ _ _ _ => (pg_name (i := 8) sc_law_plan_views.nd rfl (.inl rfl))) (fun _ _ _ _ _ => pts_nil) (fun _ _ _ _ _ => (pe_call G_law_plan_value (hr.mono (by decide)) (by rfl) T.D_law_plan_value.G T.D_law_plan_value.F.kp T.D_law_plan_value.B .nil pass0 (pa_cons (pe_ix (r := rIxL K) ix_list (pv 4) (pv 8) (fun _ _ => rfl)) (pa_cons (pe_ix (r := rIxL K) ix_list (pe_ix (r := rIxL K) ix_list (pv 1) (pv 8) (fun _ _ => rfl)) (pv 6) (fun _ _ => rfl)) pa_nil))))) pa_nil)) pa_nil)))))
      (pss_one (ps_ret (pe_callTy call_tuple_of (by rfl) T.n_tuple (by decide +kernel) (pa_cons (pv 5) pa_nil))))))))), ?_⟩
    refine ⟨_, rfl, d, l, 4, rfl, hD, by decide, fun H1 r1 k1 D1 a1 a2 => ?_⟩
    obtain ⟨f, rfl, hf⟩ := draw_nt (by decide) a1 a2
    refine ⟨_, rfl, d, l, 2, rfl, D1, by decide, fun H2 r2 k2 D2 a1 a2 => ?_⟩
    obtain ⟨al, rfl, hal⟩ := draw_nt (by decide) a1 a2
    have k12 := k1.trans k2
    obtain ⟨nch, rows, ech, lR, R1, R8, hR⟩ := hch.kp k12
    have lr := lR.1
    refine ⟨_, rfl, ch, rfl, ⟨_, SqL.of ech⟩, fun D nD => ?_⟩
    have nDd := D2.nd nD
    refine lc_it (walk_list (K := K) (a := ch) (xs := rows)) (fun i H' => ∃ ks : List Nat, H' D = some (.lst (ks.map nV)) ∧ ks.length = i ∧ (∀ k ∈ ks, k < 4) ∧ Kp d H2 H' ∧ DI d l H') ⟨[], upd_same, rfl, (fun _ h => nomatch h), (Kp.refl d H2).new nD, D2.new nD⟩ ?_ ?_ ?_
    · rintro i H' _ ⟨_, _, _, _, k, _⟩
      exact SqL.of (k _ _ nch ech)
    · rintro i x H3 H4 hi ⟨ks, eD, lk, hk, k3, D3⟩ ⟨rfl, hx⟩
      refine ⟨rfl, ?_⟩
      refine ⟨d, l, f, al, rfl, rfl, rfl, by omega, D3, fun H5 k k5 D5 k4 => ?_⟩
      refine ⟨_, k5 _ _ nDd.1 eD, szN (by rw [List.length_map]; omega), ks ++ [k], by rw [upd_same, List.map_append]; rfl, by rw [List.length_append, lk]; rfl, fun x hx => ?_, (k3.trans k5).mut nD, D5.at nDd.1 nDd.2⟩
      rcases List.mem_append.mp hx with h | h
      · exact hk x h
      · rw [List.mem_singleton.mp h]; exact k4
    · rintro H3 ⟨ks, eD, lk, hk, k3, D3⟩
      have hk : ∀ lv, lv < R.length → ks.getD lv 0 < 4 := fun lv hl => hk _ (getD_mem (by omega))
      have ech3 := k3 _ _ nch ech
      have lR3 : LV (RwX d ch H3) rows R := lR.mono fun _ _ z => z.kp k3
      refine ⟨by show 0 ≤ sizeLine; decide, fun L nL => ?_⟩
      have nLd := D3.nd nL
      have nLH := none_kp (k12.trans k3) nLd.1 nL
      obtain ⟨rv, erv, ra, rfl, nad, nac, era⟩ := lR3.get0 (i := 0) [] (by omega)
      have ro := hR _ (getD_mem (xs := R) (i := 0) (d := []) (by omega))
      have e1 : upd H3 L (.lst []) ch = some (.lst rows) := by rw [upd_ne (ne_of_none ech3 nL)]; exact ech3
      have e2 : upd H3 L (.lst []) ra = some (.lst ((R.getD 0 []).map nV)) := by rw [upd_ne (ne_of_none era nL)]; exact era
      refine ⟨_, rfl, ch, _, _, _, rfl, rfl, SqL.of e1, atI_nat (j := 0) erv, ra, _, rfl, .inl (SqL.of e2), (n : Int), by rw [List.length_map, ro.1], by omega, by omega, ?_⟩
      rw [toNat_k]
      refine for_it walk_range (fun i σ' H' => ∃ (us : List V) (x6 x7 x8 : Option V), σ' = [some (.ref d), some (.ref ch), some (nV f), some (nV al), some (.ref D), some (.ref L), x6, x7, x8] ∧ Kp d H3 H' ∧ DI d l H' ∧ H' L = some (.lst us) ∧ LV (TupR Td H') us ((List.range i).map fun k => (List.range R.length).map fun lv => valD (ks.getD lv 0) ((R.getD lv []).getD k 0)))
        ⟨[], _, _, _, rfl, (Kp.refl d H3).new nL, D3.new nL, upd_same, LV.nil⟩ (fun _ _ _ _ _ => trivial) ?_ ?_
      · rintro i x σ' H4 H5 hi ⟨us, x6, x7, x8, rfl, k4, D4, eL, lv⟩ ⟨rfl, hx⟩
        have hx : x = nV i := by rw [hx]; exact int0 i
        subst hx
        have ech5 := k4 _ _ nch ech3
        refine ⟨.ref L, rfl, .inl ⟨rfl, _, .inl (.inl eL)⟩, ?_⟩
        refine ⟨_, rfl, ch, _, rfl, .inl (SqL.of ech5), (R.length : Int), by rw [lr], by omega, by omega, ?_⟩
        rw [toNat_k]
        refine fun D2 nD2 => ?_
        have nLD2 : L ≠ D2 := ne_of_none eL nD2
        refine lc_it walk_range (fun j H' => ∃ vs, H' D2 = some (.lst vs) ∧ LV (Td H') vs ((List.range j).map fun lv => valD (ks.getD lv 0) ((R.getD lv []).getD i 0)) ∧ Same H5 H') ⟨[], upd_same, LV.nil, same_upd (Same.refl H5) nD2⟩ (fun _ _ _ _ => trivial) ?_ ?_
        · rintro j x H6 H7 hj ⟨vs, eD2, lvs, k6⟩ ⟨rfl, hx⟩
          have hx : x = nV j := by rw [hx]; exact int0 j
          subst hx
          have k37 := k4.trans (Kp.of_same k6)
          obtain ⟨rv, erv, ra, rfl, nad, nac, era⟩ := lR3.get0 (i := j) [] hj
          have ro := hR _ (getD_mem (xs := R) (i := j) (d := []) hj)
          have era7 := k37 _ _ nad era
          have ech7 := k37 _ _ nch ech3
          have lm : (R.getD j []).getD i 0 < n := ro.2 _ (getD_mem (by rw [ro.1]; exact hi))
          have hl1 := lvs.1
          rw [List.length_map, List.length_range] at hl1
          refine ⟨rfl, ?_⟩
          refine ⟨_, rfl, _, rfl, D, _, _, _, rfl, rfl, SqL.of (k37 _ _ nDd.1 eD), atI_nat (nat_at (i := j) (by omega)), _, rfl, _, rfl, ch, _, _, _, rfl, rfl, SqL.of ech7, atI_nat erv, _, rfl, ra, _, _, _, rfl, rfl, SqL.of era7, atI_nat (nat_at (i := i) (by rw [ro.1]; exact hi)), ?_⟩
          refine ⟨_, _, rfl, hk j hj, by omega, fun H8 v k8 tv => ?_⟩
          have eD8 := k8 _ _ eD2
          have lvs8 : LV (Td H8) vs ((List.range j).map fun lv => valD (ks.getD lv 0) ((R.getD lv []).getD i 0)) := lvs.mono fun _ _ z => Td.to (TK.same k8) z
          refine ⟨vs, eD8, szN (by omega), vs ++ [v], upd_same, ?_, same_mut (k6.trans k8) nD2⟩
          rw [List.range_succ, List.map_append]
          exact (lvs8.snoc tv).mono fun _ _ z => Td.to (TK.mut (TK.refl _) eD8) z
        · rintro H6 ⟨vs, eD2, lvs, k6⟩
          have eL6 := k6 _ _ eL
          refine ⟨D2, vs, rfl, .inl ⟨SqL.of eD2, fun p np => ?_⟩⟩
          have nLp : L ≠ p := ne_of_none eL6 np
          have k7 := k4.trans ((Kp.of_same k6).new (o := .tup vs) np)
          have D7 := (D4.keep k6).new (o := .tup vs) np
          have e7 : TupR Td (upd H6 p (.tup vs)) (.ref p) ((List.range R.length).map fun lv => valD (ks.getD lv 0) ((R.getD lv []).getD i 0)) := ⟨p, vs, rfl, upd_same, lvs.mono fun _ _ z => Td.to (TK.new (TK.refl _) np) z⟩
          have eL7 : upd H6 p (.tup vs) L = some (.lst us) := by rw [upd_ne nLp]; exact eL6
          have lv7 : LV (TupR Td (upd H6 p (.tup vs))) us ((List.range i).map fun k => (List.range R.length).map fun lv => valD (ks.getD lv 0) ((R.getD lv []).getD k 0)) := lv.mono fun _ _ z => (TupR.mn Td.mn).to z ((TK.same k6).new np)
          generalize upd H6 p (.tup vs) = H7 at k7 D7 e7 eL7 lv7
          have lu := lv.1
          rw [List.length_map, List.length_range] at lu
          refine ⟨L, us, _, rfl, rfl, eL7, szN (by omega), ?_⟩
          refine ⟨us ++ [.ref p], _, _, _, rfl, k7.mut nL, D7.at nLd.1 nLd.2, upd_same, ?_⟩
          rw [List.range_succ, List.map_append]
          exact (lv7.snoc e7).mono fun _ _ z => (TupR.mn Td.mn).to z (TK.mut (TK.refl _) eL7)
      · rintro σ' H4 ⟨us, x6, x7, x8, rfl, k4, D4, eL, lv⟩
        refine ⟨_, rfl, L, us, rfl, .inl ⟨SqL.of eL, fun p np => ?_⟩⟩
        exact q _ _ ks (((k12.trans k3).trans k4).new np) (D4.new np) hk ⟨p, us, rfl, upd_same, lv.mono fun _ _ z => (TupR.mn Td.mn).to z (TK.new (TK.refl _) np)⟩
end
end Vf

set_option Elab.async false
set_option linter.all false
set_option maxRecDepth 100000
set_option maxHeartbeats 4000000
namespace Vf
open PySem PySem.Spec PyProof.Rows L2 TL
/-- a list of numbers that stands neither at x nor at y -/
def LsX (x y : Addr) (H : Hp) (v : V) (ms : List Nat) : Prop := ∃ a, v = .ref a ∧ a ≠ x ∧ a ≠ y ∧ H a = some (.lst (ms.map nV))
theorem LsX.off {x y : Addr} {H H' : Hp} {v : V} {ms : List Nat} (h : LsX x y H v ms) (k : ∀ b o, b ≠ x → H b = some o → H' b = some o) : LsX x y H' v ms := by
  obtain ⟨a, e, n1, n2, h⟩ := h
  exact ⟨a, e, n1, n2, k _ _ n1 h⟩
theorem PairR.to2 {α β : Type} {R : Hp → V → α → Prop} {S S' : Hp → V → β → Prop} {H H' : Hp} {v : V} {p : α × β} (h : PairR R S H v p) (k : TK H H') (s : ∀ u y, S H u y → S' H' u y) (r : ∀ u y, R H u y → R H' u y := by exact fun _ _ z => z) : PairR R S' H' v p := by
  obtain ⟨a, u, w, e, h1, h2, h3⟩ := h
  exact ⟨a, u, w, e, k _ _ h1, r _ _ h2, s _ _ h3⟩
def LfI (H : Hp) (sc : V) (va p : Addr) (n L : Nat) (cl : Nat → List Nat → List (List Nat)) (un : List Nat → Bool) (r : List Nat) (m : Nat) (σ' : L2.St) (H' : Hp) : Prop :=
  ∃ (Wt : Addr) (W : List Itm) (pl : List Nat) (us : List V) (x4 x5 x6 x7 x8 : Option V), σ' = [some sc, some (.ref va), some (.ref p), some (.ref Wt), x4, x5, x6, x7, x8] ∧ Same H H' ∧ H' p = some (.lst (pl.map nV)) ∧ pl.length = n ∧ H' Wt = some (.lst us) ∧ Wt ≠ p ∧ H Wt = none ∧ LV (PairR natR (LsX p Wt) H') us W ∧ (∀ x ∈ W, ItOk n L x) ∧ wtS W ≤ m ∧ m ≤ n * L + 1 ∧ finF cl un m W pl = r
def tInner : TE := fun σ H Q => ∃ (v : V) (lv : Nat) (m : Addr) (n L : Nat) (D : List (List PyData)) (ms : List Nat), σ[4]? = some (some (nV lv)) ∧ σ[1]? = some (some v) ∧ σ[5]? = some (some (.ref m)) ∧ VwR H v D ∧ VwOk n L D ∧ lv < L ∧ H m = some (.lst (ms.map nV)) ∧ (∀ k ∈ ms, k < n) ∧ ms.length ≤ 100 ∧
  ∀ (H' : Hp) (c : Addr) (as : List Addr), Same H H' → CsV H H' c (if 0 < lv then cls (eqs D (lv - 1)) ms else []) as → Q (.ref c) H'
section
variable {P : Program} {w : World} {K : PySem.W.Frag} {mg : Str → Option Value} {base : Heap}
def spLFinest : Sp := fun vs H Q _ => ∃ (sc v : V) (n L : Nat) (F C : List (List Nat)) (W : List Wt) (D : List (List PyData)), vs = [sc, v] ∧ ScR H sc F C W ∧ ScOk n F C W ∧ VwR H v D ∧ VwOk n L D ∧ 1 ≤ L ∧ 1 ≤ n ∧ L ≤ 100 ∧
  ∀ H' p, Same H H' → NsR H' p (finF (fun lv ms => cls (eqs D lv) ms) (unsB F C W) (n * L + 1) [(L - 1, List.range n)] (List.replicate n 0)) → Q p H'
theorem ok_lfinest (T : Txt K mg) : FnOk P w K mg base CX0 3 T.a_law_finest T.d_law_finest ["_law_scene", "_law_views"] spLFinest := by
  have G_law_classes : FnOk P w K mg base CX0 1 T.a_law_classes T.d_law_classes ["_law_views", "_law_members", "_law_level"] spLClasses := ok_lclasses T
  have G_law_unsafe : FnOk P w K mg base CX0 2 T.a_law_unsafe T.d_law_unsafe ["_law_scene", "_law_members"] spUns := ok_uns T
  refine T.D_law_finest.F.ok sc_law_finest (fun vs H Q E h => ?_) (fun cdv A outer s H vs Q E hr h => ?_)
  · obtain ⟨sc, v, n, L, F, C, W, D, rfl, _⟩ := h
    rfl
  · obtain ⟨sc, v, n, L, F, C, W, D, rfl, hsc, osc, hv, o, L1, n1, L100, q⟩ := h
    refine ⟨_, (pss_cons (ps_set (i := 2) sc_law_finest.nd rfl (.inl rfl) (pe_op op_rep (pe_lst (pa_cons pe_int pa_nil)) (pe_callB call_len_seq (by rfl) T.n_len PySem.boot_len (pa_cons (pv 1) pa_nil))))
      (pss_cons (ps_set (i := 3) sc_law_finest.nd rfl (.inl rfl) (pe_lst (pa_cons (pe_tup (pa_cons (pe_op op_sub (pe_callB call_len_seq (by rfl) T.n_len PySem.boot_len (pa_cons (pe_ix ix_tup (pv 1) pe_int (fun _ _ => rfl)) pa_nil)) pe_int) (pa_cons (pe_listRg (by rfl) (by rfl) T.n_list (prg_1 (by rfl) T.n_range (pe_callB call_len_seq (by rfl) T.n_len PySem.boot_len (pa_cons (pv 1) pa_nil)))) pa_nil))) pa_nil)))
      (pss_cons (ps_while PassesOwn.never (pt_truth (pv 3) (by intro _; rfl)) (pss_cons (ps_asg (pe_bm0 PySem.F.plainAttrs_list PySem.F.slot_list_pop PySem.F.type_list_pop mt_pop (pv 3)) (pg_tup (by rfl) (pgs_cons (pg_name (i := 4) sc_law_finest.nd rfl (.inr rfl)) (pgs_cons (pg_name (i := 5) sc_law_finest.nd rfl (.inl rfl)) pgs_nil))))
      (pss_cons (ps_set (i := 6) sc_law_finest.nd rfl (.inl rfl) (PE.to (t' := tInner) (pe_ifExp (pt_cmpR op_gt (pv 4) pe_int (nomark _)) (pe_call G_law_classes (hr.mono (by decide)) (by rfl) T.D_law_classes.G T.D_law_classes.F.kp T.D_law_classes.B .nil pass0 (pa_cons (pv 1) (pa_cons (pv 5) (pa_cons (pe_op op_sub (pv 4) pe_int) pa_nil)))) (pe_lst pa_nil)) (fun σ H Q h => by
      obtain ⟨v, lv, m, n, L, D, ms, e4, e1, e5, hv, o, hl, em, hms, l100, q⟩ := h
      refine ⟨_, e4, _, _, rfl, rfl, _, rfl, ite2 (fun c => ?_) (fun c => ?_)⟩
      · have c : (0 : Int) < (lv : Int) := of_decide_eq_true c
        have el : V.int ((lv : Int) - 1) = nV (lv - 1) := congrArg V.int (by omega)
        refine ⟨_, e1, _, e5, _, e4, _, _, rfl, rfl, v, m, lv - 1, n, L, D, ms, ?_, hv, o, by omega, em, hms, l100, fun H1 c1 as k1 hc => ?_⟩
        · rw [← el]; rfl
        · exact q H1 c1 as k1 (by rw [if_pos (by omega)]; exact hc)
      · have c : ¬ (0 : Int) < (lv : Int) := fun z => c (decide_eq_true z)
        refine ⟨by show 0 ≤ sizeLine; decide, fun t nt => ?_⟩
        refine q _ _ [] (same_upd (Same.refl _) nt) ?_
        rw [if_neg (by omega)]
        exact ⟨upd_same, rfl, (fun i a c e => by cases i <;> cases e), List.nodup_nil, (fun h => nomatch h), nt⟩)))
      (pss_one (ps_if (PW.pt (pw_or (pt_cmpR op_eq (pv 4) pe_int (nomark _)) (pw_or1 (pt_truth (pe_lc (own := [("_law_one", 8)]) (g := gName 8) rfl sc_law_finest.nd (pi_list (pv 6)) (blkOk_by (own := [("_law_one", 8)]) (N := ["_law_scene", "_law_views", "_law_plan", "_law_waiting", "_law_level", "_law_members", "_law_inner", "_law_k", "_law_one"]) (sc := (defScope s_law_finest)) (by decide +kernel)) (fun _ _ _ _ _ => (pg_name (i := 8) sc_law_finest.nd rfl (.inl rfl))) (fun _ _ _ _ _ => (pts_one (pt_tru (K := K) rfl (pe_call G_law_unsafe (hr.mono (by decide)) (by rfl) T.D_law_unsafe.G T.D_law_unsafe.F.kp T.D_law_unsafe.B .nil pass0 (pa_cons (pv 0) (pa_cons (pv 8) pa_nil))) (by intro _; rfl)))) (fun _ _ _ _ _ => (pv 8))) (by intro _; rfl))))) (pss_one (ps_for PassesOwn.never rfl (pi_list (pv 5)) (pg_name (i := 7) sc_law_finest.nd rfl (.inl rfl)) (pss_one (ps_asg (pv 4) (pg_sub (pv 2) (pv 7) set_list))))) (pss_one (ps_set (i := 3) sc_law_finest.nd rfl (.inl rfl) (pe_op op_cat (pv 3) (pe_lc (own := [("_law_one", 8)]) (g := gName 8) (tt := tYes) rfl sc_law_finest.nd (pi_list (pv 6)) (blkOk_by (own := [("_law_one", 8)]) (N := ["_law_scene", "_law_views", "_law_plan", "_law_waiting", "_law_level", "_law_members", "_law_inner", "_law_k", "_law_one"]) (sc := (defScope s_law_finest)) (by decide +kernel)) (fun _ _ _ _ _ => (pg_name (i := 8) sc_law_finest.nd rfl (.inl rfl))) (fun _ _ _ _ _ => pts_nil) (fun _ _ _ _ _ => (pe_tup (pa_cons (pe_op op_sub (pv 4) pe_int) (pa_cons (pv 8) pa_nil)))))))))))))
      (pss_one (ps_ret (pe_callTy call_tuple_of (by rfl) T.n_tuple (by decide +kernel) (pa_cons (pv 2) pa_nil))))))), ?_⟩
    have nn := osc.nn
    obtain ⟨va, vus, rfl, eva, lvu, hat⟩ := hv.get o
    obtain ⟨r0, r0s, er0, er02, lr0, _⟩ := hat 0 (by omega)
    refine ⟨by show 1 ≤ sizeLine; decide, fun Z nZ => ?_⟩
    have kZ := same_upd (o := .lst [V.int 0]) (Same.refl H) nZ
    have eZ : upd H Z (.lst [V.int 0]) Z = some (.lst [V.int 0]) := upd_same
    generalize upd H Z (.lst [V.int 0]) = H1 at kZ eZ
    refine ⟨_, rfl, va, _, rfl, .inr (SqT.of (kZ _ _ eva)), Z, (n : Int), _, rfl, by rw [lvu], eZ, by omega, by omega, by rw [toNat_k]; exact Nat.le_of_lt (szN (by show 1 * n < 100000; omega)), fun p np => ?_⟩
    rw [toNat_k, rep0]
    have kp := same_upd (o := .lst ((List.replicate n 0).map nV)) kZ np
    have ep : upd H1 p (.lst ((List.replicate n 0).map nV)) p = some (.lst ((List.replicate n 0).map nV)) := upd_same
    have npH := none_same kZ np
    generalize upd H1 p (.lst ((List.replicate n 0).map nV)) = H2 at kp ep
    refine ⟨_, rfl, va, _, _, _, rfl, rfl, SqT.of (kp _ _ eva), atI_nat (j := 0) er0, r0, _, rfl, .inr (SqT.of (kp _ _ er02)), _, _, rfl, rfl, _, rfl, va, _, rfl, .inr (SqT.of (kp _ _ eva)), (n : Int), by rw [lvu], RgOk.of_le (by omega) (by omega) (by omega) (by omega), fun b nb => ?_⟩
    refine ⟨by show 2 ≤ sizeLine; decide, fun t nt => ⟨by show 1 ≤ sizeLine; decide, fun Wt nW => ?_⟩⟩
    have er : rgV 0 (n : Int) = (List.range n).map nV := rgV_nats n
    have k3 := same_upd (o := .lst (rgV 0 (n : Int))) kp nb
    have npb : p ≠ b := ne_of_none ep nb
    have ep3 : upd H2 b (.lst (rgV 0 (n : Int))) p = some (.lst ((List.replicate n 0).map nV)) := by rw [upd_ne npb]; exact ep
    have eb3 : upd H2 b (.lst (rgV 0 (n : Int))) b = some (.lst ((List.range n).map nV)) := by rw [upd_same, er]
    generalize upd H2 b (.lst (rgV 0 (n : Int))) = H3 at k3 ep3 eb3 nt nW
    have e5 : V.int ((r0s.length : Int) - 1) = nV (L - 1) := congrArg V.int (by omega)
    have k4 := same_upd (o := .tup [V.int ((r0s.length : Int) - 1), V.ref b]) k3 nt
    have ep4 : upd H3 t (.tup [V.int ((r0s.length : Int) - 1), V.ref b]) p = some (.lst ((List.replicate n 0).map nV)) := by rw [upd_ne (ne_of_none ep3 nt)]; exact ep3
    have et4 : upd H3 t (.tup [V.int ((r0s.length : Int) - 1), V.ref b]) t = some (.tup [nV (L - 1), V.ref b]) := by rw [upd_same, e5]
    have eb4 : upd H3 t (.tup [V.int ((r0s.length : Int) - 1), V.ref b]) b = some (.lst ((List.range n).map nV)) := by rw [upd_ne (ne_of_none eb3 nt)]; exact eb3
    have nW4 : upd H3 t (.tup [V.int ((r0s.length : Int) - 1), V.ref b]) Wt = none := nW
    generalize upd H3 t (.tup [V.int ((r0s.length : Int) - 1), V.ref b]) = H4 at k4 ep4 et4 eb4 nW4
    have k5 := same_upd (o := .lst [V.ref t]) k4 nW4
    have nWp : p ≠ Wt := ne_of_none ep4 nW4
    have nbW : b ≠ Wt := ne_of_none eb4 nW4
    have ep5 : upd H4 Wt (.lst [V.ref t]) p = some (.lst ((List.replicate n 0).map nV)) := by rw [upd_ne nWp]; exact ep4
    have lv5 : LV (PairR natR (LsX p Wt) (upd H4 Wt (.lst [V.ref t]))) [V.ref t] [(L - 1, List.range n)] := LV.nil.snoc (vs := []) (rs := []) ⟨t, _, _, rfl, by rw [upd_ne (ne_of_none et4 nW4)]; exact et4, rfl, b, rfl, npb.symm, nbW, by rw [upd_ne nbW]; exact eb4⟩
    have eW5 : upd H4 Wt (.lst [V.ref t]) Wt = some (.lst [V.ref t]) := upd_same
    have nWH := none_same k4 nW4
    have w0 : wtS [(L - 1, List.range n)] ≤ n * L + 1 := by
      show (List.range n).length * (L - 1 + 1) + 1 + 0 ≤ _
      rw [List.length_range, Nat.sub_add_cancel L1]
      exact Nat.le_refl _
    have i0 : ∀ x ∈ [((L - 1, List.range n) : Itm)], ItOk n L x := fun x hx => by
      rw [List.mem_singleton.mp hx]
      exact ⟨by show L - 1 < L; omega, fun k hk => List.mem_range.mp hk, by show (List.range n).length ≤ 24; rw [List.length_range]; omega⟩
    generalize hres : finF (fun lv ms => cls (eqs D lv) ms) (unsB F C W) (n * L + 1) [(L - 1, List.range n)] (List.replicate n 0) = res at q
    refine ⟨LfI H sc va p n L (fun lv ms => cls (eqs D lv) ms) (unsB F C W) res, ⟨n * L + 1, Wt, [(L - 1, List.range n)], List.replicate n 0, [V.ref t], none, none, none, none, none, rfl, k5, ep5, List.length_replicate .., eW5, nWp.symm, nWH, lv5, i0, w0, Nat.le_refl _, hres⟩, fun m σ' H' hW => ?_⟩
    obtain ⟨Wt, W1, pl, us, x4, x5, x6, x7, x8, rfl, k, epl, lpl, eW, nWp, nWH, lvs, hW, hwt, hmb, hr0⟩ := hW
    refine ⟨_, rfl, !us.isEmpty, .inl ⟨_, SqL.of eW, rfl⟩, ?_⟩
    by_cases hne : W1 = []
    · subst hne
      have : us = [] := List.length_eq_zero_iff.mp lvs.1
      subst this
      rw [finF_nil] at hr0
      refine ⟨_, rfl, p, _, rfl, .inl ⟨SqL.of epl, fun b nb => ?_⟩⟩
      exact q _ _ (same_upd k nb) (by rw [← hr0]; exact NsR.new)
    · obtain ⟨W0, ⟨lv, ms⟩, us0, u, rfl, eus, elast, edrop, hu, lv0⟩ := pop_last lvs hne
      have hemp : us.isEmpty = false := by rw [eus]; cases us0 <;> rfl
      rw [hemp]
      obtain ⟨h1, hms, hml⟩ := hW (lv, ms) (List.mem_append_right _ (List.mem_singleton.mpr rfl))
      have h1 : lv < L := h1
      have hml : ms.length ≤ 24 := hml
      have hw1 : wtS [((lv, ms) : Itm)] = ms.length * (lv + 1) + 1 := rfl
      rw [wtS_app, hw1] at hwt
      obtain ⟨m', rfl⟩ : ∃ m', m = m' + 1 := ⟨m - 1, by omega⟩
      refine ⟨LfI H sc va p n L (fun lv ms => cls (eqs D lv) ms) (unsB F C W) res m', fun σ' H1 hN => ⟨m', by omega, hN⟩, ?_⟩
      obtain ⟨b1, _, _, rfl, eb1, rfl, mm, rfl, nmp, nmW, emm⟩ := hu
      have us0l : us0.length = W0.length := lv0.1
      have t3 : TK H' (upd H' Wt (.lst us0)) := TK.mut (TK.refl _) eW
      have k3' := same_mut (o := .lst us0) k nWH
      have ep3' : upd H' Wt (.lst us0) p = some (.lst (pl.map nV)) := by rw [upd_ne nWp.symm]; exact epl
      have eW3 : upd H' Wt (.lst us0) Wt = some (.lst us0) := upd_same
      have lv0 : LV (PairR natR (LsX p Wt) (upd H' Wt (.lst us0))) us0 W0 := lv0.mono fun _ _ z => PairR.to2 z t3 fun u y h => by
        obtain ⟨a, e, n1, n2, h⟩ := h
        exact ⟨a, e, n1, n2, by rw [upd_ne n2]; exact h⟩
      have eb3 := t3 _ _ eb1
      have emm0 : upd H' Wt (.lst us0) mm = some (.lst (ms.map nV)) := by rw [upd_ne nmW]; exact emm
      refine ⟨_, rfl, .inl ⟨rfl, _, .inl (.inl eW)⟩, Wt, us, _, rfl, rfl, eW, elast, ?_⟩
      rw [edrop]
      generalize upd H' Wt (.lst us0) = H0 at k3' ep3' eW3 lv0 eb3 emm0
      refine ⟨b1, _, rfl, SqT.of eb3, rfl, _, _, rfl, _, _, rfl, rfl, ?_⟩
      refine ⟨.ref va, lv, mm, n, L, D, ms, rfl, rfl, rfl, VwR.mn.to hv (TK.same k3'), o, h1, emm0, hms, by omega, fun H5 Cc as k5 hcv => ?_⟩
      have kk := k3'.trans k5
      have ep5 := k5 _ _ ep3'
      have eW5 := k5 _ _ eW3
      have emm := k5 _ _ emm0
      have ok5 : ∀ b o, b ≠ p → H0 b = some o → H5 b = some o := fun b o _ e => k5 _ _ e
      refine ⟨_, rfl, rfl, ?_⟩
      by_cases c : 0 < lv
      · refine ⟨false, bFa (show ¬ nV lv = V.int 0 from fun z => by have : lv = 0 := nV_inj z; omega), ?_⟩
        rw [if_pos c] at hcv
        have co : CsOk n ms (cls (eqs D (lv - 1)) ms) := cls_ok _
        have gg : goes (fun lv ms => cls (eqs D lv) ms) (unsB F C W) (lv, ms) = (cls (eqs D (lv - 1)) ms).all fun c => !unsB F C W c := by
          unfold goes
          show (decide (0 < lv) && _) = _
          rw [decide_eq_true c, Bool.true_and]
        have fs : finF (fun lv ms => cls (eqs D lv) ms) (unsB F C W) (m' + 1) (W0 ++ [(lv, ms)]) pl = if ((cls (eqs D (lv - 1)) ms).all fun c => !unsB F C W c) = true then finF (fun lv ms => cls (eqs D lv) ms) (unsB F C W) m' (W0 ++ (cls (eqs D (lv - 1)) ms).map fun c => (lv - 1, c)) pl
            else finF (fun lv ms => cls (eqs D lv) ms) (unsB F C W) m' W0 (ms.foldl (fun p k => p.set k lv) pl) := by rw [finF_snoc, gg]
        have wp : wtS ((cls (eqs D (lv - 1)) ms).map fun c => (lv - 1, c)) ≤ ms.length * (lv - 1 + 1) + ms.length := wt_parts
        have ip : ∀ x ∈ (cls (eqs D (lv - 1)) ms).map (fun c => (lv - 1, c)), ItOk n L x := ItOk.parts ⟨h1, hms, hml⟩ c
        have hcm : ∀ c' ∈ cls (eqs D (lv - 1)) ms, (∀ k ∈ c', k < n) ∧ c'.length < 64 := fun c' hc' => by
          have ⟨_, b2, d2⟩ := co.2.1 c' hc'
          exact ⟨fun k hk => hms k (d2 k hk), by omega⟩
        generalize cls (eqs D (lv - 1)) ms = cs at hcv co gg fs wp ip hcm
        have lcs := hcv.len
        have cl1 := co.1
        refine ⟨_, rfl, Cc, rfl, ⟨_, SqL.of hcv.eL⟩, fun D2 nD2 => ?_⟩
        refine lc_it (walk_list (K := K) (a := Cc) (xs := as.map V.ref)) (fun i H' => ∃ vs, H' D2 = some (.lst vs) ∧ vs.length ≤ i ∧ vs.isEmpty = (cs.take i).all (fun c => !unsB F C W c) ∧ Same H5 H') ⟨[], upd_same, Nat.le_refl _, rfl, same_upd (Same.refl H5) nD2⟩ ?_ ?_ ?_
        · rintro i H' _ ⟨_, _, _, _, k⟩
          exact SqL.of (k _ _ hcv.eL)
        · rintro i x H7 H8 hi ⟨vs, eD2, lvs2, hvs, k7⟩ ⟨rfl, hx⟩
          rw [List.length_map] at hi
          obtain ⟨ca, _, ec2, eca, _, _⟩ := hcv.get (i := i) (by omega)
          rw [ec2] at hx
          have hx := Option.some.inj hx
          subst hx
          have ecx : cs[i]? = some (cs.getD i []) := by rw [List.getD_eq_getElem?_getD, List.getElem?_eq_getElem (show i < cs.length by omega)]; rfl
          have ⟨a2, b2⟩ := hcm _ (List.mem_of_getElem? ecx)
          refine ⟨rfl, ?_⟩
          refine ⟨_, rfl, _, rfl, sc, ca, n, F, C, W, _, rfl, hsc.mn (TK.same (kk.trans k7)), osc, k7 _ _ eca, a2, b2, fun H9 pu vu k9 epu lvu hpu => ?_⟩
          have eD9 := k9 _ _ eD2
          refine ⟨!vu.isEmpty, .inl ⟨_, SqL.of epu, rfl⟩, ?_⟩
          cases e : vu.isEmpty with
          | true =>
            rw [e] at hpu
            refine ⟨vs, eD9, by omega, ?_, k7.trans k9⟩
            rw [take_one ecx, List.all_append, List.all_cons, ← hpu, hvs]; simp
          | false =>
            rw [e] at hpu
            refine ⟨_, rfl, vs, eD9, szN (by omega), vs ++ [.ref ca], upd_same, by rw [List.length_append]; exact Nat.succ_le_succ lvs2, ?_, same_mut (k7.trans k9) nD2⟩
            rw [take_one ecx, List.all_append, List.all_cons, ← hpu]
            cases vs <;> simp
        · rintro H7 ⟨vs, eD2, lvs2, hvs, k7⟩
          rw [List.take_of_length_le (by rw [List.length_map, lcs]; exact Nat.le_refl _)] at hvs
          have kk7 := kk.trans k7
          refine ⟨!vs.isEmpty, .inl ⟨_, SqL.of eD2, rfl⟩, ?_⟩
          rw [hvs]
          cases e : cs.all fun c => !unsB F C W c with
          | true =>
            have eW7 := k7 _ _ eW5
            have hcv7 := hcv.same k7
            refine ⟨_, rfl, _, rfl, Cc, rfl, ⟨_, SqL.of hcv7.eL⟩, fun D3 nD3 => ?_⟩
            have ele : V.int ((lv : Int) - 1) = nV (lv - 1) := congrArg V.int (by omega)
            have nWD3 : Wt ≠ D3 := ne_of_none eW7 nD3
            refine lc_it (walk_list (K := K) (a := Cc) (xs := as.map V.ref)) (fun i H' => ∃ zs, H' D3 = some (.lst zs) ∧ LV (PairR natR (LsX p D3) H') zs ((cs.take i).map fun c => (lv - 1, c)) ∧ Same H7 H') ⟨[], upd_same, LV.nil, same_upd (Same.refl H7) nD3⟩ ?_ ?_ ?_
            · rintro i H' _ ⟨_, _, _, k⟩
              exact SqL.of (k _ _ hcv7.eL)
            · rintro i x H8 H9 hi ⟨zs, eD3, lz, k8⟩ ⟨rfl, hx⟩
              rw [List.length_map] at hi
              obtain ⟨ca, _, ec2, eca, nca, _⟩ := hcv7.get (i := i) (by omega)
              rw [ec2] at hx
              have hx := Option.some.inj hx
              subst hx
              have ecx : cs[i]? = some (cs.getD i []) := by rw [List.getD_eq_getElem?_getD, List.getElem?_eq_getElem (show i < cs.length by omega)]; rfl
              have ncp : ca ≠ p := (ne_of_none ep3' nca).symm
              have ncD : ca ≠ D3 := ne_of_none eca nD3
              refine ⟨rfl, ?_⟩
              refine ⟨_, rfl, _, _, rfl, rfl, _, rfl, by show 2 ≤ sizeLine; decide, fun t nt => ?_⟩
              have lzl := lz.1
              rw [List.length_map, List.length_take] at lzl
              have eD3t : upd H9 t (.tup [V.int ((lv : Int) - 1), .ref ca]) D3 = some (.lst zs) := by rw [upd_ne (ne_of_none eD3 nt)]; exact eD3
              have lzt : LV (PairR natR (LsX p D3) (upd H9 t (.tup [V.int ((lv : Int) - 1), .ref ca]))) zs ((cs.take i).map fun c => (lv - 1, c)) := lz.mono fun _ _ z => PairR.to2 z (TK.new (TK.refl _) nt) fun _ _ h => h.off fun b o _ e => by rw [upd_ne (ne_of_none e nt)]; exact e
              have ett : PairR natR (LsX p D3) (upd H9 t (.tup [V.int ((lv : Int) - 1), .ref ca])) (.ref t) (lv - 1, cs.getD i []) := ⟨t, _, _, rfl, upd_same, ele, ca, rfl, ncp, ncD, by rw [upd_ne (ne_of_none (k8 _ _ eca) nt)]; exact k8 _ _ eca⟩
              refine ⟨zs, eD3t, szN (by omega), zs ++ [.ref t], upd_same, ?_, same_mut (same_upd k8 nt) nD3⟩
              rw [take_one ecx, List.map_append]
              refine (lzt.snoc ett).mono fun _ _ z => PairR.to2 z (TK.mut (TK.refl _) eD3t) fun _ _ h => ?_
              obtain ⟨a, e, n1, n2, h⟩ := h
              exact ⟨a, e, n1, n2, by rw [upd_ne n2]; exact h⟩
            · rintro H8 ⟨zs, eD3, lz, k8⟩
              rw [List.take_of_length_le (by rw [List.length_map, lcs]; exact Nat.le_refl _)] at lz
              have lzl := lz.1
              rw [List.length_map] at lzl
              have eW8 := k8 _ _ eW7
              have k58 := k5.trans (k7.trans k8)
              have w1 := wtS_len W0
              have w2 : n * L ≤ 24 * 100 := Nat.mul_le_mul nn L100
              refine ⟨Wt, D3, us0, zs, rfl, rfl, eW8, eD3, Nat.le_of_lt (szN (by omega)), fun R nR => ?_⟩
              have ep8 := k8 _ _ (k7 _ _ ep5)
              have npR : p ≠ R := ne_of_none ep8 nR
              refine ⟨R, W0 ++ cs.map (fun c => (lv - 1, c)), pl, us0 ++ zs, _, _, _, _, _, rfl, same_upd (kk7.trans k8) nR, by rw [upd_ne npR]; exact ep8, lpl, upd_same, npR.symm, none_same (kk7.trans k8) nR, ?_, fun x hx => ?_, ?_, by omega, ?_⟩
              · have toR : ∀ {y : Addr} {v : V} {ms : List Nat}, LsX p y H8 v ms → LsX p R (upd H8 R (.lst (us0 ++ zs))) v ms := fun h => by
                  obtain ⟨a, e, n1, n2, h⟩ := h
                  have n3 : a ≠ R := ne_of_none h nR
                  exact ⟨a, e, n1, n3, by rw [upd_ne n3]; exact h⟩
                refine LV.app2 (lv0.mono fun _ _ z => PairR.to2 z ((TK.same k58).new nR) fun _ _ h => toR (h.off fun b o _ e => k58 _ _ e)) (lz.mono fun _ _ z => PairR.to2 z (TK.new (TK.refl _) nR) fun _ _ h => toR h)
              · rcases List.mem_append.mp hx with h | h
                · exact hW x (List.mem_append_left _ h)
                · exact ip x h
              · rw [wtS_app]
                have : lv - 1 + 1 = lv := by omega
                rw [this] at wp
                have e2 : ms.length * (lv + 1) = ms.length * lv + ms.length := by rw [Nat.mul_succ]
                omega
              · rw [← hr0, fs, if_pos e]
          | false =>
            refine ⟨_, rfl, mm, rfl, ⟨_, SqL.of (k7 _ _ emm)⟩, ?_⟩
            refine for_it (walk_list (K := K) (a := mm) (xs := ms.map nV)) (fun i σ' H' => ∃ x7, σ' = [some sc, some (.ref va), some (.ref p), some (.ref Wt), some (nV lv), some (.ref mm), some (.ref Cc), x7, x8] ∧ Same H H' ∧ H' p = some (.lst (((ms.take i).foldl (fun p k => p.set k lv) pl).map nV)) ∧ (∀ b o, b ≠ p → H0 b = some o → H' b = some o) ∧ H' Wt = some (.lst us0)) ⟨_, rfl, kk7, k7 _ _ ep5, fun b o nb e => k7 _ _ (ok5 b o nb e), k7 _ _ eW5⟩ ?_ ?_ ?_
            · rintro i σ' H' _ ⟨_, _, _, _, t, _⟩
              exact SqL.of (t _ _ nmp emm0)
            · rintro i x σ' H7 H8 hi ⟨x7, rfl, k7, ep7, t7, eW7⟩ ⟨rfl, hx⟩
              rw [List.length_map] at hi
              rw [nat_at hi] at hx
              have hx := Option.some.inj hx
              subst hx
              have hk : ms.getD i 0 < n := hms _ (getD_mem (d := 0) hi)
              have fl := fold_len ((ms.take i)) lv pl
              refine ⟨_, rfl, _, rfl, _, rfl, p, _, _, ms.getD i 0, rfl, rfl, ep7, ixN_nat (by rw [List.length_map]; omega), ?_⟩
              refine ⟨_, rfl, same_mut k7 npH, ?_, fun b o nb e => by rw [upd_ne nb]; exact t7 b o nb e, by rw [upd_ne nWp]; exact eW7⟩
              rw [upd_same, take_oneD 0 hi, List.foldl_append, map_set]; rfl
            · rintro σ' H7 ⟨x7, rfl, k7, ep7, t7, eW7⟩
              rw [List.length_map, List.take_length] at ep7
              refine ⟨Wt, W0, _, us0, _, _, _, _, _, rfl, k7, ep7, by rw [fold_len]; exact lpl, eW7, nWp, nWH, lv0.mono fun _ _ z => PairR.to2 z (fun a xs e => t7 a _ (fun z => by rw [z, ep3'] at e; cases e) e) (fun _ _ z => z.off t7), fun x hx => hW x (List.mem_append_left _ hx), by omega, by omega, ?_⟩
              rw [← hr0, finF_snoc, if_neg (by rw [gg, e]; exact Bool.false_ne_true)]
      · have c0 : lv = 0 := by omega
        refine ⟨true, bTr (show nV lv = V.int 0 by rw [c0]; rfl), ?_⟩
        have gg : goes (fun lv ms => cls (eqs D lv) ms) (unsB F C W) (lv, ms) = false := by
          unfold goes
          show (decide (0 < lv) && _) = _
          rw [decide_eq_false c, Bool.false_and]
        refine ⟨_, rfl, mm, rfl, ⟨_, SqL.of ((Same.refl H5) _ _ emm)⟩, ?_⟩
        refine for_it (walk_list (K := K) (a := mm) (xs := ms.map nV)) (fun i σ' H' => ∃ x7, σ' = [some sc, some (.ref va), some (.ref p), some (.ref Wt), some (nV lv), some (.ref mm), some (.ref Cc), x7, x8] ∧ Same H H' ∧ H' p = some (.lst (((ms.take i).foldl (fun p k => p.set k lv) pl).map nV)) ∧ (∀ b o, b ≠ p → H0 b = some o → H' b = some o) ∧ H' Wt = some (.lst us0)) ⟨_, rfl, kk, ep5, ok5, eW5⟩ ?_ ?_ ?_
        · rintro i σ' H' _ ⟨_, _, _, _, t, _⟩
          exact SqL.of (t _ _ nmp emm0)
        · rintro i x σ' H7 H8 hi ⟨x7, rfl, k7, ep7, t7, eW7⟩ ⟨rfl, hx⟩
          rw [List.length_map] at hi
          rw [nat_at hi] at hx
          have hx := Option.some.inj hx
          subst hx
          have hk : ms.getD i 0 < n := hms _ (getD_mem (d := 0) hi)
          have fl := fold_len ((ms.take i)) lv pl
          refine ⟨_, rfl, _, rfl, _, rfl, p, _, _, ms.getD i 0, rfl, rfl, ep7, ixN_nat (by rw [List.length_map]; omega), ?_⟩
          refine ⟨_, rfl, same_mut k7 npH, ?_, fun b o nb e => by rw [upd_ne nb]; exact t7 b o nb e, by rw [upd_ne nWp]; exact eW7⟩
          rw [upd_same, take_oneD 0 hi, List.foldl_append, map_set]; rfl
        · rintro σ' H7 ⟨x7, rfl, k7, ep7, t7, eW7⟩
          rw [List.length_map, List.take_length] at ep7
          refine ⟨Wt, W0, _, us0, _, _, _, _, _, rfl, k7, ep7, by rw [fold_len]; exact lpl, eW7, nWp, nWH, lv0.mono fun _ _ z => PairR.to2 z (fun a xs e => t7 a _ (fun z => by rw [z, ep3'] at e; cases e) e) (fun _ _ z => z.off t7), fun x hx => hW x (List.mem_append_left _ hx), by omega, by omega, ?_⟩
          rw [← hr0, finF_snoc, if_neg (by rw [gg]; exact Bool.false_ne_true)]
end
end Vf

set_option Elab.async false
set_option linter.all false
set_option maxRecDepth 100000
set_option maxHeartbeats 4000000
namespace Vf
open PySem PySem.Spec PyProof.Rows L2 TL
section
variable {P : Program} {w : World} {K : PySem.W.Frag} {mg : Str → Option Value} {base : Heap}
def spWatch : Sp := fun vs H Q _ => ∃ (d l : Addr) (cv fv : V) (ch : Addr) (n : Nat) (F C R : List (List Nat)), vs = [.ref d, cv, fv, .ref ch] ∧ DI d l H ∧ TupR NsR H cv C ∧ TupR NsR H fv F ∧ PlOk n F C ∧ ChV d n H ch R ∧
  ∀ H' v wt, Kp d H H' → DI d l H' → WtR H' v wt → WtOk n F C wt → Q v H'
theorem ok_watch (T : Txt K mg) : FnOk P w K mg base CX0 4 T.a_law_plan_watch T.d_law_plan_watch ["_law_d", "_law_counts", "_law_fillings", "_law_chain"] spWatch := by
  have G_law_draw : FnOk P w K mg base CX0 1 T.a_law_draw T.d_law_draw ["_law_d", "_law_many"] spDraw := ok_draw T
  have G_law_plan_groups : FnOk P w K mg base CX0 3 T.a_law_plan_groups T.d_law_plan_groups ["_law_d", "_law_n"] spGroups := ok_groups T
  have G_law_plan_least : FnOk P w K mg base CX0 3 T.a_law_plan_least T.d_law_plan_least ["_law_d", "_law_counts", "_law_fillings", "_law_inside", "_law_s", "_law_chain"] spPLeast := ok_pleast T
  refine T.D_law_plan_watch.F.ok sc_law_plan_watch (fun vs H Q E h => ?_) (fun cdv A outer s H vs Q E hr h => ?_)
  · obtain ⟨d, l, cv, fv, ch, n, F, C, R, rfl, _⟩ := h
    rfl
  · obtain ⟨d, l, cv, fv, ch, n, F, C, R, rfl, hD, hC, hF, o, hch, q⟩ := h
    refine ⟨_, (pss_cons (ps_set (i := 4) sc_law_plan_watch.nd rfl (.inr rfl) (pe_call G_law_plan_groups (hr.mono (by decide)) (by rfl) T.D_law_plan_groups.G T.D_law_plan_groups.F.kp T.D_law_plan_groups.B .nil pass0 (pa_cons (pv 0) (pa_cons (pe_callB call_len_seq (by rfl) T.n_len PySem.boot_len (pa_cons (pv 2) pa_nil)) pa_nil))))
      (pss_cons (ps_set (i := 5) sc_law_plan_watch.nd rfl (.inl rfl) (pe_lst pa_nil))
      (pss_cons (ps_for PassesOwn.never rfl (pi_range1 (by rfl) T.n_range (pa_cons (pe_op op_add (pe_callB (call_maxTup (by rfl) (Room.units hr)) (by rfl) T.n_max (by decide +kernel) (pa_cons (pv 4) pa_nil)) pe_int) pa_nil)) (pg_name (i := 6) sc_law_plan_watch.nd rfl (.inr rfl)) (pss_cons (ps_setLc (i := 7) (own := [("_law_k", 10)]) (g := gName 10) rfl sc_law_plan_watch.nd rfl rfl (sw_true rfl rfl rfl (by decide +kernel)) (pi_range1 (by rfl) T.n_range (pa_cons (pe_callB call_len_seq (by rfl) T.n_len PySem.boot_len (pa_cons (pv 4) pa_nil)) pa_nil)) (blkOk_by (own := [("_law_k", 10)]) (N := ["_law_d", "_law_counts", "_law_fillings", "_law_chain", "_law_groups", "_law_guards", "_law_g", "_law_inside", "_law_row", "_law_s", "_law_k"]) (sc := (defScope s_law_plan_watch)) (by decide +kernel)) (fun _ _ _ _ _ => (pg_name (i := 10) sc_law_plan_watch.nd rfl (.inl rfl))) (fun _ _ _ _ _ => (pts_one (pt_cmpR op_eq (pe_ix (r := rIxT K) ix_tup (pv 4) (pv 10) (fun _ _ => rfl)) (pv 6) (nomark _)))) (fun _ _ _ _ _ => (pv 10)))
      (pss_cons (ps_set (i := 8) sc_law_plan_watch.nd rfl (.inl rfl) (pe_lst pa_nil))
      (pss_cons (ps_for PassesOwn.never rfl (pi_range1 (by rfl) T.n_range (pa_cons (pe_callB call_len_seq (by rfl) T.n_len PySem.boot_len (pa_cons (pv 1) pa_nil)) pa_nil)) (pg_name (i := 9) sc_law_plan_watch.nd rfl (.inl rfl)) (pss_one (ps_if (pt_cmpR op_eq (pe_call G_law_draw (hr.mono (by decide)) (by rfl) T.D_law_draw.G T.D_law_draw.F.kp T.D_law_draw.B .nil pass0 (pa_cons (pv 0) (pa_cons pe_int pa_nil))) pe_int (nomark _)) (pss_one (ps_expr (pe_bm PySem.F.plainAttrs_list PySem.F.slot_list_append PySem.F.type_list_append mt_append (pv 8) (pa_cons (pe_tup (pa_cons (pv 9) (pa_cons (pe_call G_law_plan_least (hr.mono (by decide)) (by rfl) T.D_law_plan_least.G T.D_law_plan_least.F.kp T.D_law_plan_least.B .nil pass0 (pa_cons (pv 0) (pa_cons (pv 1) (pa_cons (pv 2) (pa_cons (pv 7) (pa_cons (pv 9) (pa_cons (pv 3) pa_nil))))))) pa_nil))) pa_nil)))) pss_nil)))
      (pss_one (ps_expr (pe_bm PySem.F.plainAttrs_list PySem.F.slot_list_append PySem.F.type_list_append mt_append (pv 5) (pa_cons (pe_callTy call_tuple_of (by rfl) T.n_tuple (by decide +kernel) (pa_cons (pv 8) pa_nil)) pa_nil))))))))
      (pss_one (ps_ret (pe_tup (pa_cons (pv 4) (pa_cons (pe_callTy call_tuple_of (by rfl) T.n_tuple (by decide +kernel) (pa_cons (pv 5) pa_nil)) pa_nil)))))))), ?_⟩
    obtain ⟨fa, fus, rfl, efa, lF⟩ := id hF
    obtain ⟨ca, cus, rfl, eca, lC⟩ := id hC
    have ofl := o.fl
    have onn := o.nn
    have on1 := o.n1
    have ocl := o.cl
    have lf := lF.1
    have lc := lC.1
    refine ⟨_, rfl, _, rfl, fa, _, rfl, .inr (SqT.of efa), d, l, n, by rw [lf, ofl]; rfl, hD, on1, onn, fun H1 gv gs N k1 D1 hg lg N1 N24 hgs => ?_⟩
    obtain ⟨ga, rfl, ega⟩ := hg
    refine ⟨by show 0 ≤ sizeLine; decide, fun L nL => ?_⟩
    have nLd := D1.nd nL
    have nLH := none_kp k1 nLd.1 nL
    have k12 := (Kp.refl d H1).new (o := .lst []) nL
    have D2 := D1.new (o := .lst []) nL
    have eL : upd H1 L (.lst []) L = some (.lst []) := upd_same
    have ega2 : upd H1 L (.lst []) ga = some (.tup (gs.map nV)) := by rw [upd_ne (ne_of_none ega nL)]; exact ega
    generalize upd H1 L (.lst []) = H2 at k12 D2 eL ega2
    refine ⟨_, rfl, ga, gs, rfl, SqT.of ega2, by omega, fun mx hmx hmax => ?_⟩
    have eN : mx + 1 = N := by
      have h1 := (hgs mx).mp hmx
      have h2 := hmax (N - 1) ((hgs (N - 1)).mpr (by omega))
      omega
    refine ⟨_, _, rfl, rfl, (N : Int), by rw [← eN]; rfl, by omega, by omega, ?_⟩
    rw [toNat_k]
    refine for_it walk_range (fun i σ' H' => ∃ (us : List V) (G : List (List (Nat × Nat))) (x6 x7 x8 x9 x10 : Option V), σ' = [some (.ref d), some (.ref ca), some (.ref fa), some (.ref ch), some (.ref ga), some (.ref L), x6, x7, x8, x9, x10] ∧ Kp d H1 H' ∧ DI d l H' ∧ H' L = some (.lst us) ∧ LV (RowR H') us G ∧ G.length = i ∧ (∀ row ∈ G, row.length ≤ 6 ∧ ∀ p ∈ row, p.1 < C.length) ∧ (∀ g, g < i → ∀ p ∈ G.getD g [], p.2 ≤ waysL C (insL F gs (List.range n) g) p.1) ∧ ∀ row ∈ G, (row.map Prod.fst).Pairwise (· < ·))
      ⟨[], [], none, none, none, none, none, rfl, k12, D2, eL, LV.nil, rfl, (fun _ h => nomatch h), (fun g h => absurd h (by omega)), fun _ h => nomatch h⟩ (fun _ _ _ _ _ => trivial) ?_ ?_
    · rintro i x σ' H3 H4 hi ⟨us, G, x6, x7, x8, x9, x10, rfl, k3, D3, eL3, lv, lG, hG, hG2, hA⟩ ⟨rfl, hx⟩
      have hx : x = nV i := by rw [hx]; exact int0 i
      subst hx
      have ega3 := kpTup D1 k3 _ _ ega
      refine ⟨_, rfl, ga, _, rfl, .inr (SqT.of ega3), (n : Int), by rw [List.length_map, lg], by omega, by omega, ?_⟩
      rw [toNat_k]
      refine fun D nD => ?_
      have nDd := D3.nd nD
      have nLD : L ≠ D := ne_of_none eL3 nD
      refine lc_it walk_range (fun j H' => ∃ ms : List Nat, H' D = some (.lst (ms.map nV)) ∧ ms = (List.range j).filter (fun k => decide (gs.getD k 0 = i)) ∧ Same H4 H') ⟨[], upd_same, rfl, same_upd (Same.refl H4) nD⟩ (fun _ _ _ _ => trivial) ?_ ?_
      · rintro j x H5 H6 hj ⟨ms, eD, hms, k5⟩ ⟨rfl, hx⟩
        have hx : x = nV j := by rw [hx]; exact int0 j
        subst hx
        have lm : ms.length ≤ j := by rw [hms]; exact Nat.le_trans (List.length_filter_le _ _) (by rw [List.length_range]; exact Nat.le_refl _)
        refine ⟨rfl, ?_⟩
        refine ⟨_, rfl, _, rfl, ga, _, _, _, rfl, rfl, SqT.of (k5 _ _ ega3), atI_nat (nat_at (i := j) (by omega)), _, rfl, rfl, ?_⟩
        by_cases c : gs.getD j 0 = i
        · refine ⟨true, bTr (congrArg nV c), ?_⟩
          refine ⟨_, rfl, _, eD, szN (by rw [List.length_map]; omega), ms ++ [j], by rw [upd_same, List.map_append]; rfl, ?_, same_mut k5 nD⟩
          rw [hms, List.range_succ, List.filter_append, List.filter_cons_of_pos (by rw [decide_eq_true c])]; rfl
        · refine ⟨false, bFa (fun z => c (nV_inj z)), ms, eD, ?_, k5⟩
          rw [hms, List.range_succ, List.filter_append, List.filter_cons_of_neg (by rw [decide_eq_false c]; decide), List.filter_nil, List.append_nil]
      · rintro H5 ⟨ms, eD, hms0, k5⟩
        have hms : ∀ k, k ∈ ms ↔ k < n ∧ gs.getD k 0 = i := fun k => by rw [hms0, List.mem_filter, List.mem_range, decide_eq_true_eq]
        have lm : ms.length ≤ n := by rw [hms0]; exact Nat.le_trans (List.length_filter_le _ _) (by rw [List.length_range]; exact Nat.le_refl _)
        have hin : (ms.map fun k => F.getD k []) = insL F gs (List.range n) i := by rw [hms0]; rfl
        have D5 := D3.keep k5
        have k35 := k3.trans (Kp.of_same k5)
        have eL5 := k5 _ _ eL3
        -- the group is not empty
        have m1 : 1 ≤ ms.length := by
          obtain ⟨k, hk, ek⟩ := mem_at ((hgs i).mpr hi)
          exact List.length_pos_of_mem ((hms k).mpr ⟨by omega, getD_of ek⟩)
        refine ⟨by show 0 ≤ sizeLine; decide, fun W nW => ?_⟩
        have nWd := D5.nd nW
        have nDW : D ≠ W := ne_of_none eD nW
        have nLW : L ≠ W := ne_of_none eL5 nW
        have eca5 : H5 ca = some (.tup cus) := kpTup hD (k1.trans k35) _ _ eca
        refine ⟨_, rfl, ca, _, rfl, .inr (SqT.of (by rw [upd_ne (ne_of_none eca5 nW)]; exact eca5)), (C.length : Int), by rw [lc], by omega, by omega, ?_⟩
        rw [toNat_k]
        refine for_it walk_range (fun j σ' H' => ∃ (ws : List V) (row : List (Nat × Nat)) (x9 : Option V), σ' = [some (.ref d), some (.ref ca), some (.ref fa), some (.ref ch), some (.ref ga), some (.ref L), some (nV i), some (.ref D), some (.ref W), x9, x10] ∧ Kp d H5 H' ∧ DI d l H' ∧ H' W = some (.lst ws) ∧ LV (PairR natR natR H') ws row ∧ row.length ≤ j ∧ (∀ p ∈ row, p.1 < C.length ∧ p.2 ≤ waysL C (insL F gs (List.range n) i) p.1) ∧ (row.map Prod.fst).Pairwise (· < ·) ∧ ∀ p ∈ row, p.1 < j)
          ⟨[], [], _, rfl, (Kp.refl d H5).new nW, D5.new nW, upd_same, LV.nil, Nat.le_refl _, (fun _ h => nomatch h), List.Pairwise.nil, fun _ h => nomatch h⟩ (fun _ _ _ _ _ => trivial) ?_ ?_
        · rintro j x σ' H6 H7 hj ⟨ws, row, x9, rfl, k6, D6, eW, lw, lr, hrow, hasc, hlow⟩ ⟨rfl, hx⟩
          have hx : x = nV j := by rw [hx]; exact int0 j
          subst hx
          refine ⟨_, rfl, d, l, 3, rfl, D6, by decide, fun H8 r k8 D8 _ _ => ?_⟩
          have eW8 := k8 _ _ nWd.1 eW
          have lw8 : LV (PairR natR natR H8) ws row := lw.mono fun _ _ z => (PairR.mn natR_mn natR_mn).to z (kpTup D6 k8)
          refine ⟨rfl, _, rfl, ite2 (fun _ => ?_) (fun _ => ?_)⟩
          · refine ⟨.ref W, rfl, .inl ⟨rfl, _, .inl (.inl eW8)⟩, _, rfl, _, rfl, _, rfl, _, rfl, _, rfl, _, rfl, _, rfl, ?_⟩
            have k08 := (k1.trans k35).trans (k6.trans k8)
            refine ⟨d, l, .ref ca, .ref fa, D, j, ch, n, F, C, R, ms, rfl, D8, (TupR.mn NsR.mn).to hC (kpTup hD k08), (TupR.mn NsR.mn).to hF (kpTup hD k08), o, hch.kp k08, nDd.1, (k6.trans k8) _ _ nDd.1 eD, m1, by omega, fun k hk => ((hms k).mp hk).1, hj, fun H9 y k9 D9 hy => ?_⟩
            rw [hin] at hy
            have eW9 := k9 _ _ nWd.1 eW8
            have lw9 : LV (PairR natR natR H9) ws row := lw8.mono fun _ _ z => (PairR.mn natR_mn natR_mn).to z (kpTup D8 k9)
            refine ⟨by show 2 ≤ sizeLine; decide, fun p np => ?_⟩
            have nWp : W ≠ p := ne_of_none eW9 np
            have lu := lw.1
            refine ⟨W, ws, _, rfl, rfl, by rw [upd_ne nWp]; exact eW9, szN (by omega), ?_⟩
            have ep : PairR natR natR (upd H9 p (.tup [nV j, nV y])) (.ref p) (j, y) := ⟨p, _, _, rfl, upd_same, rfl, rfl⟩
            have lwp : LV (PairR natR natR (upd H9 p (.tup [nV j, nV y]))) ws row := lw9.mono fun _ _ z => (PairR.mn natR_mn natR_mn).to z (TK.new (TK.refl _) np)
            have eWp : upd H9 p (.tup [nV j, nV y]) W = some (.lst ws) := by rw [upd_ne nWp]; exact eW9
            refine ⟨ws ++ [.ref p], row ++ [(j, y)], _, rfl, (((k6.trans k8).trans k9).new np).mut nW, (D9.new np).at nWd.1 nWd.2, upd_same, (lwp.snoc ep).mono fun _ _ z => (PairR.mn natR_mn natR_mn).to z (TK.mut (TK.refl _) eWp), by rw [List.length_append]; exact Nat.succ_le_succ lr, fun p hp => ?_, ?_, fun p hp => ?_⟩
            · rcases List.mem_append.mp hp with h | h
              · exact hrow p h
              · rw [List.mem_singleton.mp h]; exact ⟨hj, hy⟩
            · rw [List.map_append]
              refine List.pairwise_append.mpr ⟨hasc, List.pairwise_singleton _ _, fun x hx y hy => ?_⟩
              obtain ⟨p, hp, rfl⟩ := List.mem_map.mp hx
              rw [List.mem_singleton.mp hy]
              exact hlow p hp
            · rcases List.mem_append.mp hp with h | h
              · exact Nat.lt_succ_of_lt (hlow p h)
              · rw [List.mem_singleton.mp h]; exact Nat.lt_succ_self _
          · exact ⟨ws, row, _, rfl, k6.trans k8, D8, eW8, lw8, by omega, hrow, hasc, fun p hp => Nat.lt_succ_of_lt (hlow p hp)⟩
        · rintro σ' H6 ⟨ws, row, x9, rfl, k6, D6, eW, lw, lr, hrow, hasc, hlow⟩
          have eL6 := k6 _ _ nLd.1 eL5
          refine ⟨.ref L, rfl, .inl ⟨rfl, _, .inl (.inl eL6)⟩, _, rfl, W, _, rfl, .inl ⟨SqL.of eW, fun p np => ?_⟩⟩
          have nLp : L ≠ p := ne_of_none eL6 np
          have k7 := k6.new (o := .tup ws) np
          have D7 := D6.new (o := .tup ws) np
          have e7 : RowR (upd H6 p (.tup ws)) (.ref p) row := ⟨p, ws, rfl, upd_same, lw.mono fun _ _ z => (PairR.mn natR_mn natR_mn).to z (TK.new (TK.refl _) np)⟩
          have eL7 : upd H6 p (.tup ws) L = some (.lst us) := by rw [upd_ne nLp]; exact eL6
          generalize upd H6 p (.tup ws) = H7 at k7 D7 e7 eL7
          have k47 := (Kp.of_same k5).trans k7
          have lu := lv.1
          have lv7 : LV (RowR H7) us G := lv.mono fun _ _ z => RowR.mn.to z (kpTup D3 k47)
          refine ⟨L, us, _, rfl, rfl, eL7, szN (by omega), ?_⟩
          refine ⟨us ++ [.ref p], G ++ [row], _, _, _, _, _, rfl, (k3.trans k47).mut nL, D7.at nLd.1 nLd.2, upd_same, (lv7.snoc e7).mono fun _ _ z => RowR.mn.to z (TK.mut (TK.refl _) eL7), by rw [List.length_append, lG]; rfl, fun r hr => ?_, fun g hg p hp => ?_, fun r hr => ?_⟩
          · rcases List.mem_append.mp hr with h | h
            · exact hG r h
            · rw [List.mem_singleton.mp h]; exact ⟨by omega, fun p hp => (hrow p hp).1⟩
          · rcases Nat.lt_or_ge g i with h | h
            · rw [List.getD_eq_getElem?_getD, List.getElem?_append_left (by omega), ← List.getD_eq_getElem?_getD] at hp
              exact hG2 g h p hp
            · have : g = i := by omega
              subst this
              rw [List.getD_eq_getElem?_getD, List.getElem?_append_right (by omega), lG, Nat.sub_self] at hp
              exact (hrow p hp).2
          · rcases List.mem_append.mp hr with h | h
            · exact hA r h
            · rw [List.mem_singleton.mp h]; exact hasc
    · rintro σ' H3 ⟨us, G, x6, x7, x8, x9, x10, rfl, k3, D3, eL3, lv, lG, hG, hG2, hA⟩
      refine ⟨_, rfl, _, rfl, L, us, rfl, .inl ⟨SqL.of eL3, fun p np => ?_⟩⟩
      have k4 := (k1.trans k3).new (o := .tup us) np
      have D4 := D3.new (o := .tup us) np
      have e4 : TupR RowR (upd H3 p (.tup us)) (.ref p) G := ⟨p, us, rfl, upd_same, lv.mono fun _ _ z => RowR.mn.to z (TK.new (TK.refl _) np)⟩
      have ega4 : upd H3 p (.tup us) ga = some (.tup (gs.map nV)) := by rw [upd_ne (ne_of_none (kpTup D1 k3 _ _ ega) np)]; exact kpTup D1 k3 _ _ ega
      generalize upd H3 p (.tup us) = H4 at k4 D4 e4 ega4
      refine ⟨by show 2 ≤ sizeLine; decide, fun r nr => ?_⟩
      refine q _ _ (gs, G) (k4.new nr) (D4.new nr) ⟨r, _, _, rfl, upd_same, ⟨ga, rfl, by rw [upd_ne (ne_of_none ega4 nr)]; exact ega4⟩, (TupR.mn RowR.mn).to e4 (TK.new (TK.refl _) nr)⟩ ⟨lg, fun k hk => ?_, by show G.length ≤ 24; omega, hG, fun g hg => hG2 g (by have hg : g < G.length := hg; omega), hA⟩
      show gs.getD k 0 < G.length
      rw [lG]
      exact (hgs _).mp (getD_mem (by omega))
end
end Vf

set_option Elab.async false
set_option linter.all false
set_option maxRecDepth 100000
set_option maxHeartbeats 4000000
namespace Vf
open PySem PySem.Spec PyProof.Rows L2 TL
theorem FiOk.pl {t : Nat} {S : List Nat} {F C : List (List Nat)} (o : FiOk t S F) (h24 : t ≤ 24) (h1 : C.length = S.length) (h2 : ∀ s, s < S.length → (C.getD s []).length = S.getD s 0) : PlOk F.length F C := by
  refine ⟨rfl, o.f1, by have := o.ft; omega, by have := o.s6; omega, fun f hf => ?_⟩
  have ⟨a, b⟩ := o.fl f hf
  exact ⟨by omega, fun s hs => by rw [h2 s (by omega)]; exact b s (by omega)⟩
theorem ScOk.of {n : Nat} {F C : List (List Nat)} {W : List Wt} (o : PlOk n F C) (hw : W.length ≤ 5) (hk : ∀ wt ∈ W, WtOk n F C wt) : ScOk n F C W := ⟨o.fl, o.fm, o.nn, o.cl, hw, hk⟩
section
variable {P : Program} {w : World} {K : PySem.W.Frag} {mg : Str → Option Value} {base : Heap}
def spScene : Sp := fun vs H Q _ => ∃ (d l sz : Addr) (fv : V) (ch : Addr) (t : Nat) (S : List Nat) (F R : List (List Nat)), vs = [.ref d, .ref sz, fv, .ref ch] ∧ DI d l H ∧ sz ≠ d ∧ H sz = some (.lst (S.map nV)) ∧ TupR NsR H fv F ∧ FiOk t S F ∧ t ≤ 24 ∧ ChV d F.length H ch R ∧
  ∀ H' v C W, Kp d H H' → DI d l H' → ScR H' v F C W → ScOk F.length F C W → Q v H'
theorem ok_scene (T : Txt K mg) : FnOk P w K mg base CX0 5 T.a_law_plan_scene T.d_law_plan_scene ["_law_d", "_law_sizes", "_law_fillings", "_law_chain"] spScene := by
  have G_law_pick : FnOk P w K mg base CX0 2 T.a_law_pick T.d_law_pick ["_law_d", "_law_row"] (spPick K) := ok_pick T
  have G_law_plan_counts : FnOk P w K mg base CX0 3 T.a_law_plan_counts T.d_law_plan_counts ["_law_d", "_law_sizes", "_law_fillings"] spCounts := ok_counts T
  have G_law_plan_watch : FnOk P w K mg base CX0 4 T.a_law_plan_watch T.d_law_plan_watch ["_law_d", "_law_counts", "_law_fillings", "_law_chain"] spWatch := ok_watch T
  refine T.D_law_plan_scene.F.ok sc_law_plan_scene (fun vs H Q E h => ?_) (fun cdv A outer s H vs Q E hr h => ?_)
  · obtain ⟨d, l, sz, fv, ch, t, S, F, R, rfl, _⟩ := h
    rfl
  · obtain ⟨d, l, sz, fv, ch, t, S, F, R, rfl, hD, nsd, esz, hF, o, t24, hch, q⟩ := h
    refine ⟨_, (pss_cons (ps_set (i := 4) sc_law_plan_scene.nd rfl (.inr rfl) (pe_call G_law_plan_counts (hr.mono (by decide)) (by rfl) T.D_law_plan_counts.G T.D_law_plan_counts.F.kp T.D_law_plan_counts.B .nil pass0 (pa_cons (pv 0) (pa_cons (pv 1) (pa_cons (pv 2) pa_nil)))))
      (pss_cons (ps_setLc (i := 5) (own := [("_law_w", 6)]) (g := gName 6) (tt := tYes) rfl sc_law_plan_scene.nd rfl rfl (sw_true rfl rfl rfl (by decide +kernel)) (pi_range1 (by rfl) T.n_range (pa_cons (pe_call G_law_pick (hr.mono (by decide)) (by rfl) T.D_law_pick.G T.D_law_pick.F.kp T.D_law_pick.B .nil pass0 (pa_cons (pv 0) (pa_cons (pe_lst (pa_cons pe_int (pa_cons pe_int (pa_cons pe_int (pa_cons pe_int (pa_cons pe_int pa_nil)))))) pa_nil))) pa_nil)) (blkOk_by (own := [("_law_w", 6)]) (N := ["_law_d", "_law_sizes", "_law_fillings", "_law_chain", "_law_counts", "_law_watches", "_law_w"]) (sc := (defScope s_law_plan_scene)) (by decide +kernel)) (fun _ _ _ _ _ => (pg_name (i := 6) sc_law_plan_scene.nd rfl (.inl rfl))) (fun _ _ _ _ _ => pts_nil) (fun _ _ _ _ _ => (pe_call G_law_plan_watch (hr.mono (by decide)) (by rfl) T.D_law_plan_watch.G T.D_law_plan_watch.F.kp T.D_law_plan_watch.B .nil pass0 (pa_cons (pv 0) (pa_cons (pv 4) (pa_cons (pv 2) (pa_cons (pv 3) pa_nil)))))))
      (pss_one (ps_ret (pe_tup (pa_cons (pv 2) (pa_cons (pv 4) (pa_cons (pe_callTy call_tuple_of (by rfl) T.n_tuple (by decide +kernel) (pa_cons (pv 5) pa_nil)) pa_nil)))))))), ?_⟩
    refine ⟨_, rfl, _, rfl, _, rfl, d, l, sz, fv, t, S, F, rfl, hD, nsd, esz, hF, o, t24, fun H1 cv C k1 D1 hC c1 c2 => ?_⟩
    have po := o.pl t24 c1 c2
    refine ⟨_, rfl, by show 5 ≤ sizeLine; decide, fun M nM => ?_⟩
    refine ⟨d, l, .ref M, _, rfl, D1.new nM, .inl ⟨M, rfl, (D1.nd nM).1, SqL.of upd_same⟩, Nat.succ_pos _, by show 5 ≤ 1000; decide, fun H2 v k2 D2 hv => ?_⟩
    have k2 := ((Kp.refl d H1).new nM).trans k2
    obtain ⟨m, rfl, _, m5⟩ := isN_of (lo := 0) (hi := 5) (List.all_eq_true.mp (show List.all _ (isN 0 5) = true from rfl) v hv)
    have k12 := k1.trans k2
    have hC2 := (TupR.mn NsR.mn).to hC (kpTup D1 k2)
    have hF2 := (TupR.mn NsR.mn).to hF (kpTup hD k12)
    have hch2 := hch.kp k12
    refine ⟨(m : Int), rfl, by omega, by omega, ?_⟩
    rw [toNat_k]
    refine fun D nD => ?_
    have nDd := D2.nd nD
    refine lc_it walk_range (fun i H' => ∃ (us : List V) (W : List Wt), H' D = some (.lst us) ∧ LV (WtR H') us W ∧ W.length = i ∧ (∀ wt ∈ W, WtOk F.length F C wt) ∧ Kp d H2 H' ∧ DI d l H') ⟨[], [], upd_same, LV.nil, rfl, (fun _ h => nomatch h), (Kp.refl d H2).new nD, D2.new nD⟩ (fun _ _ _ _ => trivial) ?_ ?_
    · rintro i x H3 H4 hi ⟨us, W, eD, lv, lW, hW, k3, D3⟩ ⟨rfl, hx⟩
      have t3 := kpTup D2 k3
      refine ⟨rfl, ?_⟩
      refine ⟨_, rfl, _, rfl, _, rfl, _, rfl, d, l, cv, fv, ch, _, F, C, R, rfl, D3, (TupR.mn NsR.mn).to hC2 t3, (TupR.mn NsR.mn).to hF2 t3, po, hch2.kp k3, fun H5 v wt k5 D5 hw ow => ?_⟩
      have eD5 := k5 _ _ nDd.1 eD
      have lv5 : LV (WtR H5) us W := lv.mono fun _ _ z => WtR.mn.to z (kpTup D3 k5)
      have lu := lv.1
      refine ⟨us, eD5, szN (by omega), us ++ [v], W ++ [wt], upd_same, (lv5.snoc hw).mono fun _ _ z => WtR.mn.to z (TK.mut (TK.refl _) eD5), by rw [List.length_append, lW]; rfl, fun x hx => ?_, (k3.trans k5).mut nD, D5.at nDd.1 nDd.2⟩
      rcases List.mem_append.mp hx with h | h
      · exact hW x h
      · rw [List.mem_singleton.mp h]; exact ow
    · rintro H3 ⟨us, W, eD, lv, lW, hW, k3, D3⟩
      have t3 : TK H2 H3 := kpTup D2 k3
      refine ⟨_, rfl, _, rfl, _, rfl, D, us, rfl, .inl ⟨SqL.of eD, fun p np => ?_⟩⟩
      have kp := (k12.trans k3).new (o := .tup us) np
      have Dp := D3.new (o := .tup us) np
      have e4 : TupR WtR (upd H3 p (.tup us)) (.ref p) W := ⟨p, us, rfl, upd_same, lv.mono fun _ _ z => WtR.mn.to z (TK.new (TK.refl _) np)⟩
      have hC4 := (TupR.mn NsR.mn).to hC2 (t3.new (o := .tup us) np)
      have hF4 := (TupR.mn NsR.mn).to hF2 (t3.new (o := .tup us) np)
      generalize upd H3 p (.tup us) = H4 at kp Dp e4 hC4 hF4
      refine ⟨by show 3 ≤ sizeLine; decide, fun r nr => ?_⟩
      have tr : TK H4 (upd H4 r (.tup [fv, cv, V.ref p])) := TK.new (TK.refl _) nr
      exact q _ _ C W (kp.new nr) (Dp.new nr) ⟨r, _, _, _, rfl, upd_same, (TupR.mn NsR.mn).to hF4 tr, (TupR.mn NsR.mn).to hC4 tr, (TupR.mn WtR.mn).to e4 tr⟩ (ScOk.of po (by omega) hW)
end
end Vf

set_option Elab.async false
set_option linter.all false
set_option maxRecDepth 100000
set_option maxHeartbeats 4000000
namespace Vf
open PySem PySem.Spec PyProof.Rows L2 TL
/-- two values are the same data, at most n - 1 tuples deep -/
def Eqv : Nat → Hp → V → V → Prop
  | 0, _, _, _ => False
  | n + 1, H, v, u => ((∃ z, v = .str z ∧ u = .str z) ∨ (∃ i, v = .int i ∧ u = .int i) ∨ (v = .non ∧ u = .non)) ∨
      ∃ (a b : Addr) (xs ys : List V), v = .ref a ∧ u = .ref b ∧ H a = some (.tup xs) ∧ H b = some (.tup ys) ∧ xs.length = ys.length ∧ xs.length ≤ 100000 ∧ ∀ (i : Nat) x y, xs[i]? = some x → ys[i]? = some y → Eqv n H x y
def spExact (n : Nat) : Sp := fun vs H Q _ => ∃ (v u : V), vs = [v, u] ∧ Eqv n H v u ∧ Q (.bl true) H
theorem eq_self {H : Hp} {Q : VK} {x : V} (q : Q (.bl true) H) : Q (.bl (decide (x = x))) H := by
  rw [decide_eq_true rfl]; exact q
section
variable {P : Program} {w : World} {K : PySem.W.Frag} {mg : Str → Option Value} {base : Heap}
theorem ok_exact (T : Txt K mg) : ∀ n : Nat, FnOk P w K mg base CX0 (n + 1) T.a_law_exact T.d_law_exact ["_law_told", "_law_due"] (spExact n)
  | 0 => by
    refine T.D_law_exact.F.ok sc_law_exact (fun vs H Q E h => ?_) (fun cdv A outer s H vs Q E hr h => ?_)
    · obtain ⟨v, u, rfl, _⟩ := h
      rfl
    · obtain ⟨v, u, rfl, hE, q⟩ := h
      exact hE.elim
  | n + 1 => by
    have G_law_exact : FnOk P w K mg base CX0 (n + 1) T.a_law_exact T.d_law_exact ["_law_told", "_law_due"] (spExact n) := ok_exact T n
    refine T.D_law_exact.F.ok sc_law_exact (fun vs H Q E h => ?_) (fun cdv A outer s H vs Q E hr h => ?_)
    · obtain ⟨v, u, rfl, _⟩ := h
      rfl
    · obtain ⟨v, u, rfl, hE, q⟩ := h
      refine ⟨_, (pss_cons (ps_if (pt_val (pe_callB call_isi (by rfl) T.n_isinstance (by decide +kernel) (pa_cons (pv 1) (pa_cons (pe_bltn (v := .ty "tuple") (by rfl) T.n_tuple (by decide +kernel) rfl) pa_nil)))) (pss_cons (ps_if (PW.pt (pw_or (pt_not (pt_val (pe_callB call_isi (by rfl) T.n_isinstance (by decide +kernel) (pa_cons (pv 0) (pa_cons (pe_bltn (v := .ty "tuple") (by rfl) T.n_tuple (by decide +kernel) rfl) pa_nil))))) (pw_or1 (pt_cmpR op_ne (pe_callB call_len (by rfl) T.n_len PySem.boot_len (pa_cons (pv 0) pa_nil)) (pe_callB call_len (by rfl) T.n_len PySem.boot_len (pa_cons (pv 1) pa_nil)) (nomark _))))) (pss_one (ps_ret pe_bl)) pss_nil)
      (pss_cons (ps_for PassesOwn.never rfl (pi_range1 (by rfl) T.n_range (pa_cons (pe_callB call_len (by rfl) T.n_len PySem.boot_len (pa_cons (pv 1) pa_nil)) pa_nil)) (pg_name (i := 2) sc_law_exact.nd rfl (.inl rfl)) (pss_one (ps_if (pt_not (pt_val (pe_call G_law_exact hr (by rfl) T.D_law_exact.G T.D_law_exact.F.kp T.D_law_exact.B .nil pass0 (pa_cons (pe_ix ix_seq (pv 0) (pv 2) (fun _ _ => rfl)) (pa_cons (pe_ix ix_seq (pv 1) (pv 2) (fun _ _ => rfl)) pa_nil))))) (pss_one (ps_ret pe_bl)) pss_nil)))
      (pss_one (ps_ret pe_bl)))) pss_nil)
      (pss_cons (ps_if (pt_cmpR op_isN (pv 1) pe_non (nomark _)) (pss_one (ps_ret (pe_cmpR op_isN (pv 0) pe_non (nomark _)))) pss_nil)
      (pss_cons (ps_if (pt_val (pe_callB call_isi (by rfl) T.n_isinstance (by decide +kernel) (pa_cons (pv 1) (pa_cons (pe_bltn (v := .ty "bool") (by rfl) T.n_bool (by decide +kernel) rfl) pa_nil)))) (pss_one (ps_ret (pe_and (pe_callB call_isi (by rfl) T.n_isinstance (by decide +kernel) (pa_cons (pv 0) (pa_cons (pe_bltn (v := .ty "bool") (by rfl) T.n_bool (by decide +kernel) rfl) pa_nil))) (pe_one (pe_cmpR op_eq (pv 0) (pv 1) (nomark _)))))) pss_nil)
      (pss_cons (ps_if (pt_val (pe_callB call_isi (by rfl) T.n_isinstance (by decide +kernel) (pa_cons (pv 1) (pa_cons (pe_bltn (v := .ty "int") (by rfl) T.n_int (by decide +kernel) rfl) pa_nil)))) (pss_one (ps_ret (pe_and (pe_callB call_isi (by rfl) T.n_isinstance (by decide +kernel) (pa_cons (pv 0) (pa_cons (pe_bltn (v := .ty "int") (by rfl) T.n_int (by decide +kernel) rfl) pa_nil))) (pe_and (pe_not (pe_callB call_isi (by rfl) T.n_isinstance (by decide +kernel) (pa_cons (pv 0) (pa_cons (pe_bltn (v := .ty "bool") (by rfl) T.n_bool (by decide +kernel) rfl) pa_nil)))) (pe_one (pe_cmpR op_eq (pv 0) (pv 1) (nomark _))))))) pss_nil)
      (pss_one (ps_ret (pe_and (pe_callB call_isi (by rfl) T.n_isinstance (by decide +kernel) (pa_cons (pv 0) (pa_cons (pe_bltn (v := .ty "str") (by rfl) T.n_str (by decide +kernel) rfl) pa_nil))) (pe_one (pe_cmpR op_eq (pv 0) (pv 1) (nomark _)))))))))), ?_⟩
      rcases hE with (⟨z, rfl, rfl⟩ | ⟨i, rfl, rfl⟩ | ⟨rfl, rfl⟩) | ⟨a, b, xs, ys, rfl, rfl, ha, hb, el, en, hE⟩
      · refine ⟨_, rfl, _, _, .type "str", .type "tuple", false, rfl, .ty _, .base (.str _), kit_ty (by decide +kernel), _, rfl, ?_⟩
        refine ⟨_, rfl, rfl, false, bl_of (decide_eq_false (fun e => by cases e)), ?_⟩
        refine ⟨_, rfl, _, _, .type "str", .type "bool", false, rfl, .ty _, .base (.str _), kit_ty (by decide +kernel), _, rfl, ?_⟩
        refine ⟨_, rfl, _, _, .type "str", .type "int", false, rfl, .ty _, .base (.str _), kit_ty (by decide +kernel), _, rfl, ?_⟩
        exact ⟨_, rfl, _, _, .type "str", .type "str", true, rfl, .ty _, .base (.str _), kit_ty (by decide +kernel), true, rfl, _, rfl, _, rfl, rfl, eq_self q⟩
      · refine ⟨_, rfl, _, _, .type "int", .type "tuple", false, rfl, .ty _, .base (.int _), kit_ty (by decide +kernel), _, rfl, ?_⟩
        refine ⟨_, rfl, rfl, false, bl_of (decide_eq_false (fun e => by cases e)), ?_⟩
        refine ⟨_, rfl, _, _, .type "int", .type "bool", false, rfl, .ty _, .base (.int _), kit_ty (by decide +kernel), _, rfl, ?_⟩
        refine ⟨_, rfl, _, _, .type "int", .type "int", true, rfl, .ty _, .base (.int _), kit_ty (by decide +kernel), _, rfl, ?_⟩
        exact ⟨_, rfl, _, _, .type "int", .type "int", true, rfl, .ty _, .base (.int _), kit_ty (by decide +kernel), true, rfl, _, rfl, _, _, .type "int", .type "bool", false, rfl, .ty _, .base (.int _), kit_ty (by decide +kernel), false, rfl, true, rfl, _, rfl, _, rfl, rfl, eq_self q⟩
      · refine ⟨_, rfl, _, _, .type "NoneType", .type "tuple", false, rfl, .ty _, .base .non, kit_ty (by decide +kernel), _, rfl, ?_⟩
        exact ⟨_, rfl, rfl, true, bl_of (decide_eq_true rfl), _, rfl, rfl, eq_self q⟩
      · refine ⟨_, rfl, _, _, .type "tuple", .type "tuple", true, rfl, .ty _, .base (.tup hb), kit_ty (by decide +kernel), _, rfl, ?_⟩
        refine ⟨_, rfl, _, _, .type "tuple", .type "tuple", true, rfl, .ty _, .base (.tup ha), kit_ty (by decide +kernel), _, rfl, ?_⟩
        refine ⟨_, rfl, _, _, rfl, .inr ⟨_, SqT.of ha, rfl⟩, _, rfl, _, _, rfl, .inr ⟨_, SqT.of hb, rfl⟩, rfl, false, ?_, ?_⟩
        · rw [el, decide_eq_true rfl]; rfl
        refine ⟨_, rfl, _, _, rfl, .inr ⟨_, SqT.of hb, rfl⟩, _, rfl, by omega, by omega, ?_⟩
        refine for_range (lo := 0) (n := ((ys.length : Nat) : Int).toNat) (fun i σ' H' => H' = H ∧ ∃ x2 : Option V, σ' = [some (.ref a), some (.ref b), x2]) ⟨rfl, none, rfl⟩ ?_ ?_
        · rintro i σ' H' hi ⟨rfl, x2, rfl⟩
          have hi2 : i < ys.length := by omega
          have hi1 : i < xs.length := by omega
          have gx : xs[i]? = some xs[i] := List.getElem?_eq_getElem hi1
          have gy : ys[i]? = some ys[i] := List.getElem?_eq_getElem hi2
          have e0 : ((0 : Int) + (i : Int)) = (i : Int) := Int.zero_add _
          refine ⟨_, rfl, _, rfl, .inr (.inl ⟨a, xs, _, _, rfl, rfl, SqT.of ha, at_of e0 gx, ?_⟩)⟩
          refine ⟨_, rfl, _, rfl, .inr (.inl ⟨b, ys, _, _, rfl, rfl, SqT.of hb, at_of e0 gy, ?_⟩)⟩
          exact ⟨_, _, rfl, hE i _ _ gx gy, true, rfl, rfl, _, rfl⟩
        · rintro σ' H' ⟨rfl, x2, rfl⟩
          exact q
end
end Vf

set_option Elab.async false
set_option linter.all false
set_option maxRecDepth 100000
set_option maxHeartbeats 4000000
namespace Vf
open PySem PySem.Spec PyProof.Rows L2 TL
def tDear (m : Nat) : TE := fun σ H Q => ∃ (d l : Addr) (b : Bool), σ[1]? = some (some (.ref d)) ∧ σ[2]? = some (some (.bl b)) ∧ DI d l H ∧ ∀ (H' : Hp) (t : Nat), Kp d H H' → DI d l H' → 1 ≤ t → t ≤ m → Q (nV t) H'
/-- a scene and views that are asked together -/
def PrOk (F : List (List Nat)) (H : Hp) (u : V) : Prop := ∃ b s v C W R ks, u = .ref b ∧ H b = some (.tup [s, v]) ∧ ScR H s F C W ∧ ScOk F.length F C W ∧ VwR H v (vwL ks R F.length) ∧ (∀ lv, lv < R.length → ks.getD lv 0 < 4) ∧ (∀ r ∈ R, RowOk F.length r) ∧ 1 ≤ R.length ∧ R.length ≤ 8 ∧ TopC F.length R
theorem PrOk.to {F : List (List Nat)} {H H' : Hp} {u : V} (h : PrOk F H u) (k : TK H H') : PrOk F H' u := by
  obtain ⟨b, s, v, C, W, R, ks, e, h1, h2, h3, h4, h5⟩ := h
  exact ⟨b, s, v, C, W, R, ks, e, k _ _ h1, h2.mn k, h3, VwR.mn.to h4 k, h5⟩
theorem PrOk.new {F : List (List Nat)} {H : Hp} {s v : V} {C : List (List Nat)} {W : List Wt} {R : List (List Nat)} {ks : List Nat} {b : Addr} (nb : H b = none) (h2 : ScR H s F C W) (h3 : ScOk F.length F C W) (h4 : VwR H v (vwL ks R F.length)) (h5 : ∀ lv, lv < R.length → ks.getD lv 0 < 4) (h6 : ∀ r ∈ R, RowOk F.length r) (h7 : 1 ≤ R.length) (h8 : R.length ≤ 8) (h9 : TopC F.length R) : PrOk F (upd H b (.tup [s, v])) (.ref b) :=
  ⟨b, s, v, C, W, R, ks, rfl, upd_same, h2.mn (TK.new (TK.refl _) nb), h3, VwR.mn.to h4 (TK.new (TK.refl _) nb), h5, h6, h7, h8, h9⟩
theorem ns_eqv {H : Hp} {u v : V} {xs : List Nat} (hu : NsR H u xs) (hv : NsR H v xs) (hl : xs.length ≤ 1000) : Eqv 2 H u v := by
  obtain ⟨a, rfl, ea⟩ := hu
  obtain ⟨b, rfl, eb⟩ := hv
  refine .inr ⟨a, b, _, _, rfl, rfl, ea, eb, rfl, by rw [List.length_map]; omega, fun i x y hx hy => ?_⟩
  rw [hx] at hy
  have := Option.some.inj hy
  subst this
  rw [List.getElem?_map] at hx
  cases g : xs[i]? with
  | none => rw [g] at hx; cases hx
  | some z =>
    rw [g] at hx
    exact .inl (.inr (.inl ⟨(z : Int), (Option.some.inj hx).symm, (Option.some.inj hx).symm⟩))
end Vf

set_option Elab.async false
set_option linter.all false
set_option maxRecDepth 100000
set_option maxHeartbeats 4000000
namespace Vf
open PySem PySem.Spec PyProof.Rows L2 TL
/-! ### classes of one, the careless plan, what a plan tells -/
def clsOf (D : List (List PyData)) (n lv k : Nat) : List Nat := (List.range n).filter fun o => eqs D lv o k
theorem clsOf_lt {D : List (List PyData)} {n lv k : Nat} : ∀ x ∈ clsOf D n lv k, x < n := fun x hx => List.mem_range.mp (List.mem_filter.mp hx).1
theorem clsOf_len (D : List (List PyData)) (n lv k : Nat) : (clsOf D n lv k).length ≤ n := Nat.le_trans (List.length_filter_le _ _) (by rw [List.length_range]; exact Nat.le_refl _)
def toldL (D : List (List PyData)) (n : Nat) (pl : List Nat) (k : Nat) : List Nat := (clsOf D n (pl.getD k 0) k).filter fun o => decide (pl.getD o 0 = pl.getD k 0)
theorem toldL_lt {D : List (List PyData)} {n k : Nat} {pl : List Nat} : ∀ x ∈ toldL D n pl k, x < n := fun x hx => clsOf_lt x (List.mem_filter.mp hx).1
theorem toldL_len (D : List (List PyData)) (n : Nat) (pl : List Nat) (k : Nat) : (toldL D n pl k).length ≤ n := Nat.le_trans (List.length_filter_le _ _) (clsOf_len D n _ k)
def keepsB (D : List (List PyData)) (n : Nat) (un : List Nat → Bool) (pl : List Nat) : Bool := (List.range n).all fun k => !un (toldL D n pl k)
/-- the first level at which the class is safe -/
def lo (D : List (List PyData)) (n L : Nat) (un : List Nat → Bool) (k : Nat) : Nat := ((List.range L).filter fun lv => !un (clsOf D n lv k)).headD 0
theorem filter_first {p : Nat → Bool} : ∀ {L lv : Nat}, lv < L → (∀ l, l < lv → p l = false) → p lv = true → ∃ r, (List.range L).filter p = lv :: r
  | 0, lv, h, _, _ => absurd h (Nat.not_lt_zero _)
  | L + 1, lv, h, h1, h2 => by
    rw [List.range_succ, List.filter_append]
    rcases Nat.lt_or_ge lv L with c | c
    · obtain ⟨r, e⟩ := filter_first c h1 h2
      exact ⟨_, by rw [e]; rfl⟩
    · have : lv = L := by omega
      subst this
      rw [List.filter_eq_nil_iff.mpr fun x hx => by rw [h1 x (List.mem_range.mp hx)]; decide, List.filter_cons_of_pos h2]
      exact ⟨_, rfl⟩
theorem filter_has {p : Nat → Bool} {L : Nat} {x : Nat} (hx : x < L) (h : p x = true) : ∃ lv r, (List.range L).filter p = lv :: r ∧ lv < L ∧ (∀ l, l < lv → p l = false) ∧ p lv = true := by
  have : ∃ lv, lv < L ∧ (∀ l, l < lv → p l = false) ∧ p lv = true := by
    induction x using Nat.strongRecOn with
    | _ x ih =>
      by_cases c : ∃ i, i < x ∧ p i = true
      · obtain ⟨i, hi, e⟩ := c
        exact ih i hi (by omega) e
      · refine ⟨x, hx, fun l hl => ?_, h⟩
        cases z : p l with
        | false => rfl
        | true => exact absurd ⟨l, hl, z⟩ c
  obtain ⟨lv, a, b, c⟩ := this
  obtain ⟨r, e⟩ := filter_first a b c
  exact ⟨lv, r, e, a, b, c⟩
section
variable {P : Program} {w : World} {K : PySem.W.Frag} {mg : Str → Option Value} {base : Heap}
def spClassOf : Sp := fun vs H Q _ => ∃ (v : V) (lv k n L : Nat) (D : List (List PyData)), vs = [v, nV lv, nV k] ∧ VwR H v D ∧ VwOk n L D ∧ lv < L ∧ k < n ∧ n ≤ 100 ∧
  ∀ H' c, Same H H' → NsR H' c (clsOf D n lv k) → Q c H'
theorem ok_class_of (T : Txt K mg) : FnOk P w K mg base CX0 1 T.a_class_of T.d_class_of ["views", "level", "k"] spClassOf := by
  refine T.D_class_of.F.ok sc_class_of (fun vs H Q E h => ?_) (fun cdv A outer s H vs Q E hr h => ?_)
  · obtain ⟨v, lv, k, n, L, D, rfl, _⟩ := h
    rfl
  · obtain ⟨v, lv, k, n, L, D, rfl, hv, o, hl, hk, n100, q⟩ := h
    refine ⟨_, (pss_one (ps_ret (pe_callTy call_tuple_of (by rfl) T.n_tuple (by decide +kernel) (pa_cons (pe_lc (own := [("other", 3)]) (g := gName 3) rfl sc_class_of.nd (pi_range1 (by rfl) T.n_range (pa_cons (pe_callB call_len_seq (by rfl) T.n_len PySem.boot_len (pa_cons (pv 0) pa_nil)) pa_nil)) (blkOk_by (own := [("other", 3)]) (N := ["views", "level", "k", "other"]) (sc := (defScope s_class_of)) (by decide +kernel)) (fun _ _ _ _ _ => (pg_name (i := 3) sc_class_of.nd rfl (.inl rfl))) (fun _ _ _ _ _ => (pts_one (pt_cmpR (r := rEqD K) (op_eqD (Room.units hr)) (pe_ix (r := rIxT K) ix_tup (pe_ix (r := rIxT K) ix_tup (pv 0) (pv 3) (fun _ _ => rfl)) (pv 1) (fun _ _ => rfl)) (pe_ix (r := rIxT K) ix_tup (pe_ix (r := rIxT K) ix_tup (pv 0) (pv 2) (fun _ _ => rfl)) (pv 1) (fun _ _ => rfl)) (nomark _)))) (fun _ _ _ _ _ => (pv 3))) pa_nil)))), ?_⟩
    obtain ⟨va, vus, rfl, eva, lvu, hat⟩ := hv.get o
    refine ⟨_, rfl, va, _, rfl, .inr (SqT.of eva), (n : Int), by rw [lvu], by omega, by omega, ?_⟩
    rw [toNat_k]
    refine fun C nC => ?_
    obtain ⟨rk, rks, erk, erk2, lrk, hlk⟩ := hat k hk
    obtain ⟨vx, evx, tvx⟩ := hlk lv hl
    refine lc_it walk_range (fun j H' => H' C = some (.lst (((List.range j).filter fun o => eqs D lv o k).map nV)) ∧ Same H H') ⟨upd_same, same_upd (Same.refl H) nC⟩ (fun _ _ _ _ => trivial) ?_ ?_
    · rintro j x H1 H2 hj ⟨eC, k1⟩ ⟨rfl, hx⟩
      have hx : x = nV j := by rw [hx]; exact int0 j
      subst hx
      obtain ⟨rj, rjs, erj, erj2, lrj, hlj⟩ := hat j hj
      obtain ⟨vy, evy, tvy⟩ := hlj lv hl
      have e1 : okD (dat D j lv) := o.ok hj hl
      have e2 : okD (dat D k lv) := o.ok hk hl
      have lm : ((List.range j).filter fun o => eqs D lv o k).length ≤ j := Nat.le_trans (List.length_filter_le _ _) (by rw [List.length_range]; exact Nat.le_refl _)
      refine ⟨rfl, ?_⟩
      refine ⟨_, rfl, _, rfl, va, _, _, _, rfl, rfl, SqT.of (k1 _ _ eva), atI_nat erj, _, rfl, rj, _, _, _, rfl, rfl, SqT.of (k1 _ _ erj2), atI_nat evy, _, rfl, _, rfl, va, _, _, _, rfl, rfl, SqT.of (k1 _ _ eva), atI_nat erk, _, rfl, rk, _, _, _, rfl, rfl, SqT.of (k1 _ _ erk2), atI_nat evx, _, _, (Td.to (TK.same k1) tvy).dp, (Td.to (TK.same k1) tvx).dp, e1.sh, e2.sh, ?_⟩
      cases e : eqs D lv j k with
      | true =>
        have e' : PyData.eqv (dat D j lv) (dat D k lv) = true := e
        refine ⟨true, by rw [e'], ?_⟩
        refine ⟨_, rfl, _, eC, szN (by rw [List.length_map]; omega), ?_, same_mut k1 nC⟩
        rw [upd_same, List.range_succ, List.filter_append, List.filter_cons_of_pos (by rw [e]), List.map_append]; rfl
      | false =>
        have e' : PyData.eqv (dat D j lv) (dat D k lv) = false := e
        refine ⟨false, by rw [e'], ?_⟩
        rw [List.range_succ, List.filter_append, List.filter_cons_of_neg (by rw [e]; decide), List.filter_nil, List.append_nil]
        exact ⟨eC, k1⟩
    · rintro H1 ⟨eC, k1⟩
      refine ⟨C, _, rfl, .inl ⟨SqL.of eC, fun p np => ?_⟩⟩
      exact q _ _ (same_upd k1 np) NsR.new
end
end Vf

set_option Elab.async false
set_option linter.all false
set_option maxRecDepth 100000
set_option maxHeartbeats 4000000
namespace Vf
open PySem PySem.Spec PyProof.Rows L2 TL
/-! ### min of a list of tuples of ints -/
def dI (c : List Int) : PyData := .tuple (c.map .int)
theorem dl_lt (xs ys : List Int) : PySem.W.dataLt (dI xs) (dI ys) = decide (xs < ys) := by
  unfold dI
  rw [PySem.W.dataLt_tuple]
  exact PySem.W.dataLt_ints xs ys
theorem alike_ints : ∀ xs ys : List Int, PySem.W.alikeAll (xs.map .int) (ys.map .int) = true
  | [], ys => by
    cases ys <;> simp [PySem.W.alikeAll]
  | x :: xs, [] => by simp [PySem.W.alikeAll]
  | x :: xs, y :: ys => by
    simp only [List.map_cons, PySem.W.alikeAll, PySem.W.alike, Bool.true_and]
    exact alike_ints xs ys
theorem depth_ints : ∀ xs : List Int, PyData.depthAll (xs.map .int) = 0
  | [] => rfl
  | x :: xs => by
    simp only [List.map_cons, PyData.depthAll, PyData.depth]
    rw [depth_ints xs]; rfl
theorem depth_dI : ∀ cs : List (List Int), PyData.depthAll (cs.map dI) ≤ 1
  | [] => Nat.zero_le _
  | c :: cs => by
    have := depth_dI cs
    simp only [List.map_cons, PyData.depthAll, dI, PyData.depth]
    rw [depth_ints c]
    omega
theorem minD_dI : ∀ (cs : List (List Int)) (c : List Int), PySem.W.minD (dI c) (cs.map dI) = dI (cs.foldl (fun a y => if y < a then y else a) c) := by
  intro cs
  unfold PySem.W.minD
  induction cs with
  | nil => intro c; rfl
  | cons k r ih =>
    intro c
    rw [List.map_cons, List.foldl_cons, List.foldl_cons, ← ih, dl_lt]
    by_cases h : k < c
    · rw [if_pos h, if_pos (decide_eq_true h)]
    · rw [if_neg h, if_neg (by rw [decide_eq_false h]; decide)]
theorem lex_tri : ∀ a b : List Int, a < b ∨ a = b ∨ b < a
  | [], [] => .inr (.inl rfl)
  | [], _ :: _ => .inl .nil
  | _ :: _, [] => .inr (.inr .nil)
  | x :: a, y :: b => by
    rcases Int.lt_trichotomy x y with h | h | h
    · exact .inl (.rel h)
    · subst h
      rcases lex_tri a b with h | h | h
      · exact .inl (.cons h)
      · exact .inr (.inl (by rw [h]))
      · exact .inr (.inr (.cons h))
    · exact .inr (.inr (.rel h))
theorem lex_irr : ∀ {a : List Int}, ¬ a < a
  | [], h => by cases h
  | x :: a, h => by
    cases h with
    | rel h => omega
    | cons h => exact lex_irr h
theorem lex_tr : ∀ {a b c : List Int}, a < b → b < c → a < c
  | [], [], _, h, _ => by cases h
  | [], _ :: _, [], _, h => by cases h
  | [], _ :: _, _ :: _, _, _ => .nil
  | _ :: _, [], _, h, _ => by cases h
  | _ :: _, _ :: _, [], _, h => by cases h
  | x :: a, y :: b, z :: c, h, k => by
    cases h with
    | rel h =>
      cases k with
      | rel k => exact .rel (Int.lt_trans h k)
      | cons k => exact .rel h
    | cons h =>
      cases k with
      | rel k => exact .rel k
      | cons k => exact .cons (lex_tr h k)
theorem foldmin : ∀ (cs : List (List Int)) (c : List Int), ∀ y ∈ c :: cs, ¬ y < cs.foldl (fun a y => if y < a then y else a) c := by
  intro cs
  induction cs with
  | nil =>
    intro c y hy
    rw [List.mem_singleton.mp hy]; exact lex_irr
  | cons z cs ih =>
    intro c y hy
    rw [List.foldl_cons]
    have h := ih (if z < c then z else c)
    have h0 := h _ List.mem_cons_self
    by_cases hz : z < c
    · rw [if_pos hz] at h h0 ⊢
      rcases List.mem_cons.mp hy with e | e
      · subst e
        exact fun k => h0 (lex_tr hz k)
      · exact h y e
    · rw [if_neg hz] at h h0 ⊢
      rcases List.mem_cons.mp hy with e | e
      · rw [e]; exact h0
      · rcases List.mem_cons.mp e with e | e
        · subst e
          intro k
          rcases lex_tri y c with h1 | h1 | h1
          · exact hz h1
          · rw [h1] at k; exact h0 k
          · exact h0 (lex_tr h1 k)
        · exact h y (List.mem_cons_of_mem _ e)
def rMinT (K : PySem.W.Frag) : List V → Hp → VK → Prop := fun vs H Q => ∃ (a : Addr) (us : List V) (cs : List (List Int)), vs = [V.ref a] ∧ SqL K H a us ∧ us.length = cs.length ∧ (∀ (i : Nat) u c, us[i]? = some u → cs[i]? = some c → ∃ p, u = .ref p ∧ SqT K H p (c.map V.int)) ∧ 0 < cs.length ∧
  ∀ (i : Nat) u c, us[i]? = some u → cs[i]? = some c → (∀ y ∈ cs, ¬ y < c) → Q u H
theorem dp_ints {K : PySem.W.Frag} {H : Hp} : ∀ xs : List Int, DpAll K H (xs.map V.int) (xs.map .int)
  | [] => .nil
  | x :: xs => .cons (.int x) (dp_ints xs)
theorem dp_all {K : PySem.W.Frag} {H : Hp} : ∀ {us : List V} {cs : List (List Int)}, us.length = cs.length → (∀ (i : Nat) u c, us[i]? = some u → cs[i]? = some c → ∃ p, u = .ref p ∧ SqT K H p (c.map V.int)) → DpAll K H us (cs.map dI)
  | [], [], _, _ => .nil
  | [], _ :: _, h, _ => by cases h
  | _ :: _, [], h, _ => by cases h
  | u :: us, c :: cs, h, k => by
    obtain ⟨p, rfl, e⟩ := k 0 u c rfl rfl
    exact .cons (.tup e (dp_ints c)) (dp_all (Nat.succ.inj h) fun i u c hu hc => k (i + 1) u c hu hc)
theorem call_minT {X : Cx} (hc : X.calm = true) (hu : X.A.units + 64 < cLine) : CallR X (.builtin "min") (rMinT X.K) := by
  intro pins s σ H vs us' Q I r h
  obtain ⟨a, us, cs, rfl, hs, hl0, hk, hne, q⟩ := h
  obtain ⟨its, rv, hl, _⟩ := I.list hs
  rw [Vals.ref1 r]
  have hd := dp_all hl0 hk
  obtain ⟨as, hr⟩ := Dp.readsAll I _ _ _ hd rv
  cases cs with
  | nil => exact absurd hne (Nat.lt_irrefl 0)
  | cons c cs =>
    have dd := depth_dI (c :: cs)
    refine PySem.W.min_list_data (x := dI c) (xs := cs.map dI) (I.ok.hd hc) hl.isList hr ⟨fun x hx y hy => ?_, fun x hx => ?_⟩ ?_ fun i v h' tk bs hi rd hkp => ?_
    · obtain ⟨x, _, rfl⟩ := List.mem_map.mp (show x ∈ (c :: cs).map dI from hx)
      obtain ⟨y, _, rfl⟩ := List.mem_map.mp (show y ∈ (c :: cs).map dI from hy)
      simp only [dI, PySem.W.alike]
      exact alike_ints x y
    · obtain ⟨x, _, rfl⟩ := List.mem_map.mp (show x ∈ (c :: cs).map dI from hx)
      intro z; cases z
    · have e : PyData.depthAll (dI c :: cs.map dI) = PyData.depthAll ((c :: cs).map dI) := rfl
      rw [e]; omega
    · have hlen := rv.length
      have hi2 : i < its.length := by
        have := (Array.getElem?_eq_some_iff.mp hi).1
        simpa using this
      have gu : us[i]? = some us[i] := List.getElem?_eq_getElem (by omega)
      have gc : (c :: cs)[i]? = some (c :: cs)[i] := List.getElem?_eq_getElem (by omega)
      obtain ⟨v2, e2, r2⟩ := Vals.get rv gu
      have ev : v2 = v := by
        have h1 : its[i]? = some v := by simpa using hi
        rw [e2] at h1
        exact Option.some.inj h1
      subst ev
      obtain ⟨bs2, rd2, _, _, _⟩ := PySem.W.readsAll_at hr i v2 (by simpa using hi)
      have eg : ((c :: cs).map dI).getD i .none = dI (c :: cs)[i] := by
        have : ((c :: cs).map dI)[i]? = some (dI (c :: cs)[i]) := by rw [List.getElem?_map, gc]; rfl
        rw [List.getD_eq_getElem?_getD, this]; rfl
      rw [eg] at rd2
      have eu := (Reads.unique (PySem.W.reads_keeps hkp rd2) _ _ rd).1
      rw [minD_dI] at eu
      have em : (c :: cs)[i] = cs.foldl (fun a y => if y < a then y else a) c := by
        have h1 := PyData.tuple.inj eu
        exact List.map_inj_right (fun a b h => PyData.int.inj h) |>.mp h1
      refine ⟨us[i], H, I.kept hkp, r2, q i _ _ gu gc fun y hy => ?_⟩
      rw [em]
      exact foldmin cs c y hy
end Vf

set_option Elab.async false
set_option linter.all false
set_option maxRecDepth 100000
set_option maxHeartbeats 4000000
namespace Vf
open PySem PySem.Spec PyProof.Rows L2 TL
/-! ### reasons -/
def toI (c : List Nat) : List Int := c.map fun x : Nat => (x : Int)
def lt3 (a b : List Nat) : Prop := toI a < toI b
def lackW (F C : List (List Nat)) (wt : Wt) (part : List Nat) (k w : Nat) : List (List Nat) := ((wt.2.getD (wt.1.getD k 0) []).filter fun p => decide (waysL C (insL F wt.1 part (wt.1.getD k 0)) p.1 < p.2)).map fun p => [w, p.1]
def wtAt (W : List Wt) (w : Nat) : Wt := W.getD w ([], [])
def lacksL (F C : List (List Nat)) (W : List Wt) (part : List Nat) (k : Nat) : List (List Nat) := (List.range W.length).flatMap fun w => lackW F C (wtAt W w) part k w
/-- the program's list -/
def reasL (F C : List (List Nat)) (W : List Wt) (parts : List (List Nat)) : List (List Nat) := parts.flatMap fun part => part.flatMap fun k => (lacksL F C W part k).map (k :: ·)
/-- the law's list -/
def rowsL (F C : List (List Nat)) (W : List Wt) (low : Nat → List Nat) (ms : List Nat) : List (List Nat) := ms.flatMap fun k => (lacksL F C W (low k) k).map (k :: ·)
theorem ways_same {F C : List (List Nat)} {gs p q : List Nat} {g s : Nat} (h : ∀ k, k ∈ p ↔ k ∈ q) : waysL C (insL F gs p g) s = waysL C (insL F gs q g) s := by
  have sub : ∀ {p q : List Nat}, (∀ k, k ∈ p ↔ k ∈ q) → waysL C (insL F gs p g) s ≤ waysL C (insL F gs q g) s := fun h => ways_sub fun f hf => by
    obtain ⟨k, hk, rfl⟩ := List.mem_map.mp hf
    have ⟨a, b⟩ := List.mem_filter.mp hk
    exact List.mem_map.mpr ⟨k, List.mem_filter.mpr ⟨(h k).mp a, b⟩, rfl⟩
  exact Nat.le_antisymm (sub h) (sub fun k => (h k).symm)
theorem lackW_same {F C : List (List Nat)} {wt : Wt} {p q : List Nat} {k w : Nat} (h : ∀ k, k ∈ p ↔ k ∈ q) : lackW F C wt p k w = lackW F C wt q k w := by
  unfold lackW
  refine congrArg (List.map _) (List.filter_congr fun x _ => ?_)
  rw [ways_same h]
theorem lacks_same {F C : List (List Nat)} {W : List Wt} {p q : List Nat} {k : Nat} (h : ∀ k, k ∈ p ↔ k ∈ q) : lacksL F C W p k = lacksL F C W q k := by
  unfold lacksL
  exact congrArg (fun f => List.flatMap f (List.range W.length)) (funext fun w => lackW_same h)
theorem reas_rows {n : Nat} {eq : Nat → Nat → Bool} {v : Nat → Nat} (he : ∀ a b, a < n → b < n → eq a b = decide (v a = v b)) {F C : List (List Nat)} {W : List Wt} {ms : List Nat} (hms : ∀ k ∈ ms, k < n) {low : Nat → List Nat} (hlow : ∀ k ∈ ms, ∀ j, j ∈ low k ↔ j ∈ ms ∧ v j = v k) (x : List Nat) :
    x ∈ reasL F C W (cls eq ms) ↔ x ∈ rowsL F C W low ms := by
  have pm := cls_perm eq ms
  unfold reasL rowsL
  simp only [List.mem_flatMap]
  constructor
  · rintro ⟨part, hp, k, hk, hx⟩
    have hkm := pm.mem_iff.mp (List.mem_flatten.mpr ⟨part, hp, hk⟩)
    refine ⟨k, hkm, ?_⟩
    rw [lacks_same (q := part) fun j => by rw [hlow k hkm, cls_mem he hms hp hk]]
    exact hx
  · rintro ⟨k, hkm, hx⟩
    obtain ⟨part, hp, hk⟩ := List.mem_flatten.mp (pm.mem_iff.mpr hkm)
    refine ⟨part, hp, k, hk, ?_⟩
    rw [← lacks_same (p := low k) (q := part) fun j => by rw [hlow k hkm, cls_mem he hms hp hk]]
    exact hx
theorem lt3_head {a b : Nat} {x y : List Nat} (h : a < b) : lt3 (a :: x) (b :: y) := by
  show ((a : Int) :: toI x) < ((b : Int) :: toI y)
  exact .rel (by omega)
theorem lt3_tail {a : Nat} {x y : List Nat} (h : lt3 x y) : lt3 (a :: x) (a :: y) := by
  show ((a : Int) :: toI x) < ((a : Int) :: toI y)
  exact .cons h
theorem lacks_asc {n : Nat} {F C : List (List Nat)} {W : List Wt} (o : ScOk n F C W) {part : List Nat} {k : Nat} (hk : k < n) : (lacksL F C W part k).Pairwise lt3 := by
  unfold lacksL
  refine List.pairwise_flatMap.mpr ⟨fun w hw => ?_, List.pairwise_lt_range.imp fun {a b} hab x hx y hy => ?_⟩
  · have hw := List.mem_range.mp hw
    have wo := o.wk _ (getD_mem (xs := W) (d := ([], [])) hw)
    unfold lackW
    have ra := wo.asc _ (getD_mem (d := []) (wo.gb k hk))
    show (List.map _ (List.filter _ ((W.getD w ([], [])).2.getD ((W.getD w ([], [])).1.getD k 0) []))).Pairwise lt3
    generalize (W.getD w ([], [])).2.getD ((W.getD w ([], [])).1.getD k 0) [] = row at ra
    refine List.pairwise_map.mpr ((List.pairwise_map.mp ra).filter _ |>.imp fun h => ?_)
    exact lt3_tail (lt3_head h)
  · obtain ⟨p, _, rfl⟩ := List.mem_map.mp hx
    obtain ⟨q, _, rfl⟩ := List.mem_map.mp hy
    exact lt3_head hab
theorem rows_asc {n : Nat} {F C : List (List Nat)} {W : List Wt} (o : ScOk n F C W) {low : Nat → List Nat} {ms : List Nat} (hms : ∀ k ∈ ms, k < n) (asc : ms.Pairwise (· < ·)) : (rowsL F C W low ms).Pairwise lt3 := by
  unfold rowsL
  refine List.pairwise_flatMap.mpr ⟨fun k hk => List.pairwise_map.mpr ((lacks_asc o (hms k hk)).imp fun h => lt3_tail h), asc.imp fun {a b} hab x hx y hy => ?_⟩
  obtain ⟨p, _, rfl⟩ := List.mem_map.mp hx
  obtain ⟨q, _, rfl⟩ := List.mem_map.mp hy
  exact lt3_head hab
theorem toI_inj {a b : List Nat} (h : toI a = toI b) : a = b := by
  induction a generalizing b with
  | nil => cases b with
    | nil => rfl
    | cons _ _ => cases h
  | cons x a ih => cases b with
    | nil => cases h
    | cons y b =>
      have h : (x : Int) :: toI a = (y : Int) :: toI b := h
      obtain ⟨h1, h2⟩ := List.cons.inj h
      rw [ih h2, show x = y by omega]
/-- the least of a list is the head of an ascending one with the same members -/
theorem least_head {l : List (List Nat)} {h c : List Nat} {r : List (List Nat)} (hm : ∀ x, x ∈ l ↔ x ∈ h :: r) (asc : (h :: r).Pairwise lt3) (hc : c ∈ l) (least : ∀ y ∈ l, ¬ lt3 y c) : c = h := by
  rcases List.mem_cons.mp ((hm c).mp hc) with e | e
  · exact e
  · exact absurd ((List.pairwise_cons.mp asc).1 c e) (least h ((hm h).mpr List.mem_cons_self))
/-- an unsafe part gives a reason -/
theorem reason_of {n : Nat} {F C : List (List Nat)} {W : List Wt} (o : ScOk n F C W) {q : List Nat} (hq : ∀ k ∈ q, k < n) (bad : unsB F C W q = true) : ∃ m ∈ q, ∃ x, x ∈ lacksL F C W q m := by
  obtain ⟨wt, hw, h⟩ := List.any_eq_true.mp bad
  obtain ⟨g, hg, h⟩ := List.any_eq_true.mp h
  unfold badG at h
  rw [Bool.and_eq_true] at h
  obtain ⟨m, hm, hmg⟩ := List.any_eq_true.mp h.1
  obtain ⟨p, hp, hl⟩ := List.any_eq_true.mp h.2
  have hmg := of_decide_eq_true hmg
  obtain ⟨w, hw2, e⟩ := List.mem_iff_getElem.mp hw
  refine ⟨m, hm, [w, p.1], List.mem_flatMap.mpr ⟨w, List.mem_range.mpr hw2, ?_⟩⟩
  have e2 : wtAt W w = wt := by unfold wtAt; exact getD_of (by rw [List.getElem?_eq_getElem hw2, e])
  rw [e2]
  unfold lackW
  rw [hmg]
  exact List.mem_map.mpr ⟨p, List.mem_filter.mpr ⟨hp, hl⟩, rfl⟩
/-! published classes -/
def hdAt (cs : Nat → List Nat) (k : Nat) : Bool := decide ((cs k).headD 0 = k)
def pubL (pl : List Nat) (n : Nat) (cs : Nat → List Nat) : List (Nat × List Nat) := ((List.range n).filter (hdAt cs)).map fun k => (pl.getD k 0, cs k)
end Vf

set_option Elab.async false
set_option linter.all false
set_option maxRecDepth 100000
set_option maxHeartbeats 4000000
/-! ### enumerate over a tuple -/
namespace PySem
set_option maxHeartbeats 2000000 in
theorem vf_meets {v : Value} {o : Obj} {G : Heap → Prop} (B : Begins v o G) :
    Meets (Builtin.«enumerate.__new__» ⟨[.type "enumerate", v], []⟩)
      (fun _ R s => G s.heap ∧ R (.ok (.ret (.ref (s.heap.push o).objs.size)))
        { s with heap := (s.heap.push o).push { cls := .type "enumerate", data := .fields #[.none, .bool false, .ref s.heap.objs.size, rawInt 0, .none, .none] } }) := by
  refine .of_wp fun prog w A R s h => ?_
  rcases s with ⟨hp, g, d, tk, os⟩
  rcases h with ⟨g1, r1⟩
  have sb := sub_enumerate
  have begins : ∀ {A' : Around} {E : Value → Shared → Prop} {Q : Value → Shared → Prop}, Q (.ref hp.objs.size) ⟨hp.push o, g, d, tk, os⟩ →
      wpAny (model prog w) A' (pyIter v) Q E ⟨hp, g, d, tk, os⟩ := fun q => B.iter prog w _ _ ⟨hp, g, d, tk, os⟩ _ g1 q
  wp_walk using begins
  refine wpAny_stack_any fun st => (wpAny_pure ?_)
  split
  next c _ _ _ _ _ =>
    cases (c == Value.type "enumerate") <;> (wp_walk using begins; exact Exists.intro _ (And.intro rfl r1))
  next => wp_walk using begins; exact Exists.intro _ (And.intro rfl r1)
section
variable {prog : Program} {w : World} {A : Around} {E : Value → Shared → Prop} {s : Shared}
theorem vf_enum {v : Value} {o : Obj} {G : Heap → Prop} {Q : Value → Shared → Prop} (B : Begins v o G) (g1 : G s.heap)
    (h : ∀ h' : Heap, IsEnum h' (s.heap.objs.size + 1) s.heap.objs.size 0 .none → h'.get? s.heap.objs.size = some o →
      (∀ b u, s.heap.get? b = some u → h'.get? b = some u) → Q (.ref (s.heap.objs.size + 1)) { s with heap := h' }) :
    wpAny (model prog w) A (call (.type "enumerate") [v]) Q E s := by
  have zz : (s.heap.push o).objs.size = s.heap.objs.size + 1 := Heap.size_push ..
  have ie : IsEnum ((s.heap.push o).push { cls := .type "enumerate", data := .fields #[.none, .bool false, .ref s.heap.objs.size, rawInt 0, .none, .none] }) (s.heap.objs.size + 1) s.heap.objs.size 0 .none := by
    have q := Heap.get?_push_size (s.heap.push o) (o := { cls := .type "enumerate", data := .fields #[.none, .bool false, .ref s.heap.objs.size, rawInt 0, .none, .none] }) rfl
    rw [zz] at q
    exact q
  refine callType_new F.called_enumerate (by decide) (F.typeCall_enumerate_1 _) (F.newCall_enumerate_1 _)
    (fun obj => F.args_object_init_2 obj _) F.entry_enumerate_new (vf_meets B) (And.intro g1 ?_)
  show _ ∧ _
  rw [zz]
  exact ⟨⟨_, ie, rfl⟩, h _ ie (Heap.get?_push_of_some _ (Heap.get?_push_size _ B.free))
    fun b u x => Heap.get?_push_of_some _ (Heap.get?_push_of_some _ x)⟩
end
end PySem
namespace Vf
open PySem PySem.Spec PyProof.Rows L2 TL
/-- the tuple at a, each item in a new pair with its number -/
def IteT (K : PySem.W.Frag) (a : Addr) : It where
  go := fun i H => ∃ (xs : List V) (x : V), SqT K H a xs ∧ xs[i]? = some x
  yld := fun i H v H' => ∃ (T : Addr) (x : V), v = .ref T ∧ H T = none ∧ H' = upd H T (.tup [.int (i : Nat), x]) ∧ ∀ xs, SqT K H a xs → xs[i]? = some x
  stop := fun i H => ∃ xs : List V, SqT K H a xs ∧ xs.length = i
theorem apart_of {h : Heap} {a b : Addr} {o u : Obj} {m n : String} (ha : h.get? a = some o) (hb : h.get? b = some u) (ca : o.cls = .type m) (cb : u.cls = .type n) (ne : m ≠ n) : a ≠ b := fun e => by
  rw [e, hb] at ha
  have e2 : u = o := Option.some.inj ha
  rw [e2, ca] at cb
  exact ne (by injection cb)
theorem turn_enumT {P : Program} {w : World} {K : PySem.W.Frag} {elts : List Expr} {kk : Nat} {tpos : Pos} (a e it : Addr) :
    Turn P w K (.Tuple elts kk tpos) (IteT K a) [e, it] e (fun i h => (∃ old, IsEnum h e it ((i : Nat) : Int) old) ∧ h.IsTupleIter it a i ∧ e ≠ it) where
  mem := List.mem_cons_self
  obj := fun i h st b hb => by
    obtain ⟨⟨old, ie⟩, ⟨u, hu, _, du⟩, _⟩ := st
    rcases List.mem_cons.mp hb with z | z
    · rw [z]; exact ⟨_, ie, fun v q => nomatch q⟩
    · rw [List.mem_singleton.mp z]; exact ⟨u, hu, fun v q => by rw [du] at q; cases q⟩
  keep := fun i h h' st k => by
    obtain ⟨⟨old, ie⟩, it1, ne⟩ := st
    exact ⟨⟨old, k e List.mem_cons_self _ ie⟩, it1.at fun u q => k it (List.mem_cons_of_mem _ List.mem_cons_self) u q, ne⟩
  item := by
    intro X hP hw hK hc i pins s σ H E I hf st hg
    subst hP hw hK
    obtain ⟨⟨old, ie⟩, it1, ne⟩ := st
    obtain ⟨xs, x, hq, hx⟩ := hg
    obtain ⟨its, rv, p, hz⟩ := I.tuple hq
    obtain ⟨u, hu, ru⟩ := rv.get hx
    have p2 : s.heap.IsTuple a its.toArray := p
    obtain ⟨oa, ga, ca, _⟩ := id p2
    obtain ⟨oi, gi, ci, _⟩ := id it1
    have nai : a ≠ it := apart_of ga gi ca ci (by decide)
    have nea : e ≠ a := apart_of (m := "enumerate") ie ga rfl ca (by decide)
    have hel : e < s.heap.objs.size := Heap.lt_size ie
    have hil : it < s.heap.objs.size := Heap.lt_size gi
    have hil2 : i < its.toArray.size := by
      have := (List.getElem?_eq_some_iff.mp hu).1
      simpa using this
    refine wpAny_pyNext_enum_itemD (Draws.tuple (prog := X.prog) (w := X.w) (A := X.A.in1) (I.ok.hd hc) it a nai its.toArray) ie ⟨it1, p2⟩ hil2 ne ?_ fun y h' tk hy ho hst hT hsz hk => ?_
    · intro hm
      rcases List.mem_cons.mp hm with z | z
      · exact ne z
      · exact nea (List.mem_singleton.mp z)
    have eu : y = u := by
      have h1 : its[i]? = some y := by simpa using hy
      exact Option.some.inj (h1.symm.trans hu)
    subst eu
    refine ⟨_, rfl, wpAny_letOwnedTupleGo_enum (s := { s with heap := h', toks := tk + 1 }) ho fun h2 he2 sb => ?_⟩
    have hT2 : h2.get? s.heap.objs.size = some { cls := .type "tuple", data := .seq #[.int i tk, y] } := (sb.2 _ (Nat.ne_of_gt hel)).trans hT
    have made : ObjOk X.prog X.w (upd H s.heap.objs.size (.tup [.int (i : Nat), x])) h2 s.heap.objs.size (.tup [.int (i : Nat), x]) :=
      ⟨(by show 2 ≤ sizeLine; decide), [.int i tk, y], .cons ⟨_, rfl⟩ (.cons ru .nil), ⟨_, hT2, rfl, _, rfl⟩⟩
    have J : Inv X pins σ (upd H s.heap.objs.size (.tup [.int (i : Nat), x])) { s with heap := h2, toks := tk + 1 } :=
      I.turnedNew (ch := [e, it]) (fun b ob hb q => (sb.2 b (fun z => hb (by rw [z]; exact List.mem_cons_self))).trans
        (hk b ob (fun z => hb (by rw [z]; exact List.mem_cons_self)) (fun z => hb (by rw [z]; exact List.mem_cons_of_mem _ List.mem_cons_self)) q)) hf (Nat.le_refl _) made
    have e1 : ((i + 1 : Nat) : Int) = (i : Int) + 1 := by omega
    refine ⟨.ref s.heap.objs.size, _, J, rfl, ⟨_, x, rfl, I.hok.fresh (Nat.le_refl _), rfl, fun ys hy2 => by rw [I.tuple_inj hy2 hq]; exact hx⟩,
      ⟨⟨y, by rw [e1]; exact he2⟩, hst.1.at fun u2 q => (sb.2 it (Ne.symm ne)).trans q, ne⟩, fun b hb => ?_⟩
    have hlt : b < s.heap.objs.size := by
      rcases List.mem_cons.mp hb with z | z
      · rw [z]; exact hel
      · rw [List.mem_singleton.mp z]; exact hil
    rw [upd_ne (Nat.ne_of_lt hlt)]
    exact (hf b hb).1
  done := by
    intro X hP hw hK hc i pins s σ H E I hf st hg
    subst hP hw hK
    obtain ⟨⟨old, ie⟩, it1, ne⟩ := st
    obtain ⟨xs, hq, hx⟩ := hg
    obtain ⟨its, rv, p, hz⟩ := I.tuple hq
    have p2 : s.heap.IsTuple a its.toArray := p
    obtain ⟨oa, ga, ca, _⟩ := id p2
    obtain ⟨oi, gi, ci, di⟩ := id it1
    have nai : a ≠ it := apart_of ga gi ca ci (by decide)
    obtain ⟨f0, f1, f2, f3, f4, f5⟩ := hf it (List.mem_cons_of_mem _ List.mem_cons_self)
    have hl := rv.length
    refine wpAny_pyNext_enum_endD (Draws.tuple (prog := X.prog) (w := X.w) (A := X.A.in1) (I.ok.hd hc) it a nai its.toArray) ie ⟨?_, p2⟩ fun h' eb => ⟨rfl, I.turned (t' := s.toks) (fun b o hb q => eb b o hb q) f0 f1 f3 f4 f5⟩
    have ei : its.toArray.size = i := by simp; omega
    rw [ei]
    exact it1
  self := fun A i s Q E st h => by
    obtain ⟨⟨_, ie⟩, _⟩ := st
    exact wpAny_pyIter_enum ie h
def iEnumT (K : PySem.W.Frag) (ta : TA) : TI := fun σ H R => ta σ H fun vs H1 => ∃ (a : Addr) (xs : List V), vs = [.ref a] ∧ SqT K H1 a xs ∧ R (IteT K a) H1
theorem pi_enumT {X : Cx} {e : Expr} {ta : TA} {p pos tpos : Pos} {elts : List Expr} {kk : Nat} (hg : Gl X "enumerate") (hm : X.mg "enumerate" = none) (ha : PA X [e] ta)
    (hs : starEach [e] X.env = [(false, eval e X.env)] := by rfl) : PI X (.Tuple elts kk tpos) (.Call (.Name "enumerate" p) [e] [] pos) (iEnumT X.K ta) := by
  constructor
  intro pins s σ H R I h
  refine Call_ (ld_blt I hg hm boot_enumerate (PyProof.Rows.callWith_type1 (thn (ha.run pos pins s σ H _ I h) fun us s1 res => ?_) hs rfl))
  obtain ⟨vs, H1, I1, r1, a, xs, ex, hq, q⟩ := res
  subst ex
  cases r1 with
  | cons r rr =>
    cases rr
    cases r
    obtain ⟨its, rv, p', hz⟩ := I1.tuple hq
    refine vf_enum (begins_tuple a its.toArray) (show s1.heap.IsTuple a its.toArray from p') fun h' ie gi hk => wpAny_pyIter_enum ie ?_
    have J : Inv X pins σ H1 { s1 with heap := h' } := I1.kept (t' := s1.toks) hk
    refine ⟨s1.heap.objs.size + 1, [s1.heap.objs.size + 1, s1.heap.objs.size], _, _, H1, rfl, J, turn_enumT a (s1.heap.objs.size + 1) s1.heap.objs.size, ⟨⟨.none, ie⟩, ⟨_, gi, rfl, rfl⟩, Nat.succ_ne_self _⟩, fun b hb => ?_, q⟩
    have le : s1.heap.objs.size ≤ b := by
      rcases List.mem_cons.mp hb with z | z
      · rw [z]; exact Nat.le_succ _
      · rw [List.mem_singleton.mp z]; exact Nat.le_refl _
    exact I1.fpOk le (I1.hok.fresh le)
/-- for i, x in enumerate(t): a word for each turn -/
theorem for_enumT {K : PySem.W.Frag} {a : Addr} {xs : List V} {g : TG} {tb : TS} {D : Ends} {σ : L2.St} {H : Hp} (Pv : Nat → L2.St → Hp → Prop) (h0 : Pv 0 σ H) (hl : ∀ i σ H, i ≤ xs.length → Pv i σ H → SqT K H a xs)
    (hs : ∀ i x T σ H, xs[i]? = some x → Pv i σ H → H T = none → g (.ref T) σ (upd H T (.tup [.int (i : Nat), x])) fun σ2 H2 => tb { D with nx := Pv (i + 1), ct := Pv (i + 1), bk := D.nx } σ2 H2) (hd : ∀ σ H, Pv xs.length σ H → D.nx σ H) :
    tFor (fun _ H R => R (IteT K a) H) g tb D σ H := by
  refine ⟨fun i m σ H => m = xs.length - i ∧ i ≤ xs.length ∧ Pv i σ H, ⟨xs.length, rfl, Nat.zero_le _, h0⟩, ?_⟩
  rintro i m σ H ⟨rfl, hi, p⟩
  have q := hl i σ H hi p
  by_cases hlt : i < xs.length
  · refine .inr ⟨⟨xs, xs[i], q, List.getElem?_eq_getElem hlt⟩, Pv (i + 1), fun σ' H' p' => ⟨xs.length - (i + 1), by omega, rfl, hlt, p'⟩, fun v H' y => ?_⟩
    obtain ⟨T, x, rfl, hT, rfl, hx⟩ := y
    exact hs i x T σ H (hx _ q) p hT
  · have e : i = xs.length := by omega
    subst e
    exact .inl ⟨⟨xs, q, rfl⟩, hd σ H p⟩
end Vf

set_option Elab.async false
set_option linter.all false
set_option maxRecDepth 100000
set_option maxHeartbeats 4000000
namespace Vf
open PySem PySem.Spec PyProof.Rows L2 TL
/-! ### a comprehension with two for -/
theorem lc2_out {J : It} {n : Nat} {G : Hp → Prop} {Y : Nat → Hp → V → Hp → Prop} (w : Walk J n G Y) {g : TG} {tt : TT} {Body : L2.St → Hp → (Hp → Prop) → Prop} {vs : List Nat} {σ : L2.St} {H1 : Hp} {D : Addr} {Qd : Hp → Prop} (Pv : Nat → Hp → Prop) (h0 : Pv 0 (upd H1 D (.lst []))) (hG : ∀ i H, i ≤ n → Pv i H → G H)
    (hs : ∀ i x H H', i < n → Pv i H → Y i H x H' → g x (wipe σ vs) H' fun σ2 H2 => wipe σ2 vs = wipe σ vs ∧ tt σ2 H2 fun b H3 => if b = true then Body σ2 H3 (Pv (i + 1)) else Pv (i + 1) H3) (hd : ∀ H, Pv n H → Qd H) :
    ∃ W : Nat → Nat → Hp → Prop, (∃ m, W 0 m (upd H1 D (.lst []))) ∧ ∀ i m H, W i m H →
      (J.stop i H ∧ Qd H) ∨ (J.go i H ∧ ∃ Nx : Hp → Prop, (∀ H', Nx H' → ∃ m', m' < m ∧ W (i + 1) m' H') ∧ ∀ x H', J.yld i H x H' → g x (wipe σ vs) H' fun σ2 H2 => wipe σ2 vs = wipe σ vs ∧ tt σ2 H2 fun b H3 =>
        if b = true then Body σ2 H3 Nx else Nx H3) := by
  refine ⟨fun i m H => m = n - i ∧ i ≤ n ∧ Pv i H, ⟨n, by simp, Nat.zero_le _, h0⟩, ?_⟩
  rintro i m H ⟨rfl, hi, p⟩
  have q := hG i H hi p
  by_cases hlt : i < n
  · exact .inr ⟨w.goes i H hlt q, Pv (i + 1), fun H' p' => ⟨n - (i + 1), by omega, rfl, hlt, p'⟩, fun x H' y => hs i x H H' hlt p (w.yields i H x H' hlt q y)⟩
  · have e : i = n := by omega
    subst e
    exact .inl ⟨w.stops H q, hd H p⟩
theorem lc2_in {J : It} {n : Nat} {G : Hp → Prop} {Y : Nat → Hp → V → Hp → Prop} (w : Walk J n G Y) {g1 : TG} {tt1 : TT} {te : TE} {vs1 : List Nat} {σ2 : L2.St} {H4 : Hp} {D : Addr} {Nx : Hp → Prop} (Pv : Nat → Hp → Prop) (h0 : Pv 0 H4) (hG : ∀ i H, i ≤ n → Pv i H → G H)
    (hs : ∀ j x H H', j < n → Pv j H → Y j H x H' → g1 x (wipe σ2 vs1) H' fun σ3 H5 => wipe σ3 vs1 = wipe σ2 vs1 ∧ tt1 σ3 H5 fun b H6 => if b = true then te σ3 H6 fun y H7 => ∃ acc, H7 D = some (.lst acc) ∧ acc.length < sizeLine ∧ Pv (j + 1) (upd H7 D (.lst (acc ++ [y]))) else Pv (j + 1) H6) (hd : ∀ H, Pv n H → Nx H) :
    ∃ W1 : Nat → Nat → Hp → Prop, (∃ m, W1 0 m H4) ∧ ∀ j k H, W1 j k H →
      (J.stop j H ∧ Nx H) ∨ (J.go j H ∧ ∃ Nx1 : Hp → Prop, (∀ H', Nx1 H' → ∃ k', k' < k ∧ W1 (j + 1) k' H') ∧ ∀ x H', J.yld j H x H' → g1 x (wipe σ2 vs1) H' fun σ3 H5 => wipe σ3 vs1 = wipe σ2 vs1 ∧ tt1 σ3 H5 fun b H6 =>
        if b = true then te σ3 H6 fun y H7 => ∃ acc, H7 D = some (.lst acc) ∧ acc.length < sizeLine ∧ Nx1 (upd H7 D (.lst (acc ++ [y]))) else Nx1 H6) := by
  refine ⟨fun i m H => m = n - i ∧ i ≤ n ∧ Pv i H, ⟨n, by simp, Nat.zero_le _, h0⟩, ?_⟩
  rintro i m H ⟨rfl, hi, p⟩
  have q := hG i H hi p
  by_cases hlt : i < n
  · exact .inr ⟨w.goes i H hlt q, Pv (i + 1), fun H' p' => ⟨n - (i + 1), by omega, rfl, hlt, p'⟩, fun x H' y => hs i x H H' hlt p (w.yields i H x H' hlt q y)⟩
  · have e : i = n := by omega
    subst e
    exact .inl ⟨w.stops H q, hd H p⟩
theorem take_succ {n i : Nat} (h : i < n) : (List.range n).take (i + 1) = (List.range n).take i ++ [i] := by
  have := take_oneD (xs := List.range n) 0 (i := i) (by rw [List.length_range]; exact h)
  rw [this, getD_of (List.getElem?_range h)]
section
variable {P : Program} {w : World} {K : PySem.W.Frag} {mg : Str → Option Value} {base : Heap}
def spLacks : Sp := fun vs H Q _ => ∃ (sc : V) (m : Addr) (k n : Nat) (F C : List (List Nat)) (W : List Wt) (ms : List Nat), vs = [sc, .ref m, nV k] ∧ ScR H sc F C W ∧ ScOk n F C W ∧ H m = some (.tup (ms.map nV)) ∧ (∀ k ∈ ms, k < n) ∧ ms.length < 64 ∧ k < n ∧
  ∀ H' a us, Same H H' → H a = none → H' a = some (.lst us) → LV (NsR H') us (lacksL F C W ms k) → us.length ≤ 30 → Q (.ref a) H'
theorem ok_lacks (T : Txt K mg) : FnOk P w K mg base CX0 2 T.a_lacks_of T.d_lacks_of ["scene", "part", "k"] spLacks := by
  have G_ways_in : FnOk P w K mg base CX0 1 T.a_ways_in T.d_ways_in ["counts", "fillings", "secret"] (spWays K) := ok_ways_in T
  refine T.D_lacks_of.F.ok sc_lacks_of (fun vs H Q E h => ?_) (fun cdv A outer s H vs Q E hr h => ?_)
  · obtain ⟨sc, m, k, n, F, C, W, ms, rfl, _⟩ := h
    rfl
  · obtain ⟨sc, m, k, n, F, C, W, ms, rfl, hSc, o, em, hms, l64, hk, q⟩ := h
    refine ⟨_, (pss_cons (ps_asg (pv 0) (pg_tup (by rfl) (pgs_cons (pg_name (i := 3) sc_lacks_of.nd rfl (.inr rfl)) (pgs_cons (pg_name (i := 4) sc_lacks_of.nd rfl (.inr rfl)) (pgs_cons (pg_name (i := 5) sc_lacks_of.nd rfl (.inl rfl)) pgs_nil)))))
      (pss_cons (ps_set (i := 6) sc_lacks_of.nd rfl (.inl rfl) (pe_lst pa_nil))
      (pss_cons (ps_for PassesOwn.never rfl (pi_enumT (by rfl) T.n_enumerate (pa_cons (pv 5) pa_nil)) (pg_tup (by rfl) (pgs_cons (pg_name (i := 7) sc_lacks_of.nd rfl (.inr rfl)) (pgs_cons (pg_tup (by rfl) (pgs_cons (pg_name (i := 8) sc_lacks_of.nd rfl (.inr rfl)) (pgs_cons (pg_name (i := 9) sc_lacks_of.nd rfl (.inl rfl)) pgs_nil))) pgs_nil))) (pss_cons (ps_set (i := 10) sc_lacks_of.nd rfl (.inr rfl) (pe_lc (own := [("other", 11)]) (g := gName 11) rfl sc_lacks_of.nd (pi_tup (pv 1)) (blkOk_by (own := [("other", 11)]) (N := ["scene", "part", "k", "fillings", "counts", "watches", "found", "watch", "groups", "guards", "together", "other", "secret", "least"]) (sc := (defScope s_lacks_of)) (by decide +kernel)) (fun _ _ _ _ _ => (pg_name (i := 11) sc_lacks_of.nd rfl (.inl rfl))) (fun _ _ _ _ _ => (pts_one (pt_cmpR op_eq (pe_ix (r := rIxT K) ix_tup (pv 8) (pv 11) (fun _ _ => rfl)) (pe_ix (r := rIxT K) ix_tup (pv 8) (pv 2) (fun _ _ => rfl)) (nomark _)))) (fun _ _ _ _ _ => (pe_ix (r := rIxT K) ix_tup (pv 3) (pv 11) (fun _ _ => rfl)))))
      (pss_one (ps_expr (pe_bm PySem.F.plainAttrs_list PySem.F.slot_list_extend PySem.F.type_list_extend mt_extend (pv 6) (pa_cons (pe_lc (own := [("secret", 12), ("least", 13)]) (g := (gTup K 2 (gCons (gName 12) (gCons (gName 13) gNil)))) rfl sc_lacks_of.nd (pi_tup (pe_ix ix_tup (pv 9) (pe_ix ix_tup (pv 8) (pv 2) (fun _ _ => rfl)) (fun _ _ => rfl))) (blkOk_by (own := [("secret", 12), ("least", 13)]) (N := ["scene", "part", "k", "fillings", "counts", "watches", "found", "watch", "groups", "guards", "together", "other", "secret", "least"]) (sc := (defScope s_lacks_of)) (by decide +kernel)) (fun _ _ _ _ _ => (pg_tup (by rfl) (pgs_cons (pg_name (i := 12) sc_lacks_of.nd rfl (.inl rfl)) (pgs_cons (pg_name (i := 13) sc_lacks_of.nd rfl (.inl rfl)) pgs_nil)))) (fun _ _ _ _ _ => (pts_one (pt_cmpR op_lt (pe_call G_ways_in (hr.mono (by decide)) (by rfl) T.D_ways_in.G T.D_ways_in.F.kp T.D_ways_in.B .nil pass0 (pa_cons (pv 4) (pa_cons (pv 10) (pa_cons (pv 12) pa_nil)))) (pv 13) (nomark _)))) (fun _ _ _ _ _ => (pe_tup (pa_cons (pv 7) (pa_cons (pv 12) pa_nil))))) pa_nil))))))
      (pss_one (ps_ret (pv 6)))))), ?_⟩
    obtain ⟨a, f, c, wv, rfl, ea, hF, hC, wa, wus, rfl, ewa, lW⟩ := hSc
    obtain ⟨fa, fus, rfl, efa, lF⟩ := id hF
    have owl := o.wl
    refine ⟨_, rfl, a, _, rfl, SqT.of ea, rfl, _, _, rfl, _, _, rfl, _, _, rfl, rfl, ?_⟩
    refine ⟨by show 0 ≤ sizeLine; decide, fun L nL => ?_⟩
    have k0 := same_upd (o := .lst []) (Same.refl H) nL
    refine ⟨_, rfl, wa, wus, rfl, SqT.of (k0 _ _ ewa), ?_⟩
    refine for_enumT (K := K) (a := wa) (xs := wus) (fun i σ' H' => ∃ (us : List V) (x7 x8 x9 x10 x11 x12 x13 : Option V), σ' = [some (.ref a), some (.ref m), some (nV k), some (.ref fa), some c, some (.ref wa), some (.ref L), x7, x8, x9, x10, x11, x12, x13] ∧ Same H H' ∧ H' L = some (.lst us) ∧ LV (NsR H') us ((List.range i).flatMap fun w => lackW F C (wtAt W w) ms k w) ∧ us.length ≤ i * 6) ⟨[], none, none, none, none, none, none, none, rfl, k0, upd_same, LV.nil, Nat.zero_le _⟩ ?_ ?_ ?_
    · rintro i σ' H' _ ⟨_, _, _, _, _, _, _, _, _, k, _⟩
      exact SqT.of (k _ _ ewa)
    · rintro i x T' σ' H1 hx ⟨us, x7, x8, x9, x10, x11, x12, x13, rfl, k1, eL, lv, lus⟩ hT
      obtain ⟨wt, ewt, b, gv, dv, rfl, eb, ⟨ga, rfl, ega⟩, da, dus, rfl, eda, lD⟩ := lW.at hx
      have wo := o.wk wt (List.mem_of_getElem? ewt)
      have ewA : wtAt W i = wt := getD_of ewt
      have hi : i < W.length := (List.getElem?_eq_some_iff.mp ewt).1
      have k2 := same_upd (o := .tup [.int (i : Nat), .ref b]) k1 hT
      have eT : upd H1 T' (.tup [.int (i : Nat), .ref b]) T' = some (.tup [.int (i : Nat), .ref b]) := upd_same
      have eL2 : upd H1 T' (.tup [.int (i : Nat), .ref b]) L = some (.lst us) := by rw [upd_ne (ne_of_none eL hT)]; exact eL
      have lv2 : LV (NsR (upd H1 T' (.tup [.int (i : Nat), .ref b]))) us ((List.range i).flatMap fun w => lackW F C (wtAt W w) ms k w) := lv.mono fun _ _ z => NsR.mn.to z (TK.new (TK.refl _) hT)
      generalize upd H1 T' (.tup [.int (i : Nat), .ref b]) = H2 at k2 eT eL2 lv2
      refine ⟨T', _, rfl, SqT.of eT, rfl, _, _, rfl, _, _, rfl, b, _, rfl, SqT.of (k2 _ _ eb), rfl, _, _, rfl, _, _, rfl, rfl, rfl, ?_⟩
      refine ⟨_, rfl, m, rfl, ⟨_, SqT.of (k2 _ _ em)⟩, fun D2 nD2 => ?_⟩
      have nD2H : H D2 = none := none_same k2 nD2
      have gk := nat_at (xs := wt.1) (i := k) (by rw [wo.gl]; exact hk)
      have hg := wo.gb k hk
      have elw : lackW F C wt ms k i = ((wt.2.getD (wt.1.getD k 0) []).filter fun p => decide (waysL C (insL F wt.1 ms (wt.1.getD k 0)) p.1 < p.2)).map fun p => [i, p.1] := rfl
      generalize wt.1.getD k 0 = g at gk hg elw
      refine lc_it (walk_tup (K := K) (a := m) (xs := ms.map nV)) (fun i H' => ∃ us, H' D2 = some (.lst us) ∧ LV (NsR H) us (insL F wt.1 (ms.take i) g) ∧ Same H2 H') ⟨[], upd_same, LV.nil, same_upd (Same.refl H2) nD2⟩ ?_ ?_ ?_
      · rintro i H' _ ⟨_, _, _, k6⟩
        exact SqT.of (k6 _ _ (k2 _ _ em))
      · rintro j x H7 H8 hj ⟨us2, eD2, lv7, k6⟩ ⟨rfl, hx⟩
        rw [List.length_map] at hj
        rw [nat_at hj] at hx
        have hx := Option.some.inj hx
        subst hx
        have hk2 : ms.getD j 0 < n := hms _ (getD_mem hj)
        obtain ⟨fx, efx, hfx⟩ := lF.get0 (i := ms.getD j 0) [] (by rw [o.fl]; exact hk2)
        have lu := lv7.1
        have li := insL_len F wt.1 (ms.take j) g
        rw [List.length_take] at li
        refine ⟨rfl, ?_⟩
        refine ⟨_, rfl, _, rfl, ga, _, _, _, rfl, rfl, SqT.of (k6 _ _ (k2 _ _ ega)), atI_nat (nat_at (by rw [wo.gl]; exact hk2)), _, rfl, _, rfl, ga, _, _, _, rfl, rfl, SqT.of (k6 _ _ (k2 _ _ ega)), atI_nat gk, rfl, ?_⟩
        by_cases hg2 : wt.1.getD (ms.getD j 0) 0 = g
        · refine ⟨true, bTr (congrArg nV hg2), ?_⟩
          refine ⟨_, rfl, _, rfl, fa, _, _, _, rfl, rfl, SqT.of (k6 _ _ (k2 _ _ efa)), atI_nat efx, ?_⟩
          refine ⟨us2, eD2, szN (by omega), us2 ++ [fx], upd_same, ?_, same_mut k6 nD2⟩
          rw [take_oneD 0 hj, insL_snoc, if_pos hg2]
          exact lv7.snoc hfx
        · refine ⟨false, bFa (fun z => hg2 (nV_inj z)), us2, eD2, ?_, k6⟩
          rw [take_oneD 0 hj, insL_snoc, if_neg hg2]
          exact lv7
      · rintro H7 ⟨us2, eD2, lv7, k6⟩
        rw [List.length_map, List.take_length] at lv7
        have k7 := k2.trans k6
        have eL7 := k6 _ _ eL2
        obtain ⟨rv, erv, ra, rus, rfl, era, lR⟩ := lD.get0 [] hg
        have ro := wo.rl _ (getD_mem (d := []) hg)
        generalize wt.2.getD g [] = row at lR ro elw
        refine ⟨.ref L, rfl, .inl ⟨rfl, _, .inl (.inl eL7)⟩, ?_⟩
        refine ⟨_, rfl, _, rfl, _, rfl, ga, _, _, _, rfl, rfl, SqT.of (k7 _ _ ega), atI_nat gk, da, _, _, _, rfl, rfl, SqT.of (k7 _ _ eda), atI_nat erv, ra, rfl, ⟨_, SqT.of (k7 _ _ era)⟩, fun D3 nD3 => ?_⟩
        have lr := lR.1
        refine lc_it (walk_tup (K := K) (a := ra) (xs := rus)) (fun j H' => ∃ zs, H' D3 = some (.lst zs) ∧ LV (NsR H') zs (((row.take j).filter fun p => decide (waysL C (insL F wt.1 ms g) p.1 < p.2)).map fun p => [i, p.1]) ∧ Same H7 H' ∧ zs.length ≤ j) ⟨[], upd_same, LV.nil, same_upd (Same.refl H7) nD3, Nat.le_refl _⟩ ?_ ?_ ?_
        · rintro j H' _ ⟨_, _, _, k8, _⟩
          exact SqT.of (k8 _ _ (k7 _ _ era))
        · rintro j x H8 H9 hj ⟨zs, eD3, lz, k8, lzs⟩ ⟨rfl, hx⟩
          obtain ⟨pr, epr, pa, _, _, rfl, epa, rfl, rfl⟩ := lR.at hx
          have k9 := k7.trans k8
          have ps := ro.2 pr (List.mem_of_getElem? epr)
          have lF2 := insL_len F wt.1 ms g
          refine ⟨pa, _, rfl, SqT.of (k9 _ _ epa), rfl, _, _, rfl, _, _, rfl, rfl, rfl, ?_⟩
          refine ⟨_, rfl, _, rfl, _, rfl, c, D2, us2, C, _, pr.1, rfl, (TupR.mn NsR.mn).to hC (TK.same k9), k8 _ _ eD2, lv7.mono fun _ _ z => NsR.mn.to z (TK.same k9), ps, insL_ok o hms ps, by omega, fun H10 k10 => ?_⟩
          have eD10 := k10 _ _ eD3
          have lz10 : LV (NsR H10) zs (((row.take j).filter fun p => decide (waysL C (insL F wt.1 ms g) p.1 < p.2)).map fun p => [i, p.1]) := lz.mono fun _ _ z => NsR.mn.to z (TK.same k10)
          have k810 := k8.trans k10
          rw [take_one epr, List.filter_append]
          by_cases e : waysL C (insL F wt.1 ms g) pr.1 < pr.2
          · refine ⟨_, rfl, _, _, rfl, rfl, true, bTr (by omega), ?_⟩
            refine ⟨_, rfl, _, rfl, by show 2 ≤ sizeLine; decide, fun p np => ?_⟩
            have nDp : D3 ≠ p := ne_of_none eD10 np
            refine ⟨zs, by rw [upd_ne nDp]; exact eD10, szN (by omega), zs ++ [.ref p], upd_same, ?_, same_mut (same_upd k810 np) nD3, by rw [List.length_append]; exact Nat.succ_le_succ lzs⟩
            rw [List.filter_cons_of_pos (by rw [decide_eq_true e]), List.filter_nil, List.map_append]
            have eDp : upd H10 p (.tup [nV i, nV pr.1]) D3 = some (.lst zs) := by rw [upd_ne nDp]; exact eD10
            exact ((lz10.mono fun _ _ z => NsR.mn.to z (TK.new (TK.refl _) np)).snoc (⟨p, rfl, upd_same⟩ : NsR (upd H10 p (.tup [nV i, nV pr.1])) (.ref p) [i, pr.1])).mono fun _ _ z => NsR.mn.to z (TK.mut (TK.refl _) eDp)
          · refine ⟨_, rfl, _, _, rfl, rfl, false, bFa (by omega), zs, eD10, ?_, k810, by omega⟩
            rw [List.filter_cons_of_neg (by rw [decide_eq_false e]; decide), List.filter_nil, List.append_nil]
            exact lz10
        · rintro H8 ⟨zs, eD3, lz, k8, lzs⟩
          rw [List.take_of_length_le (by omega), ← elw] at lz
          have k78 := k7.trans k8
          have eL8 := k8 _ _ eL7
          have r6 := ro.1
          refine ⟨L, D3, us, zs, rfl, rfl, eL8, eD3, Nat.le_of_lt (szN (by omega)), ?_⟩
          refine ⟨us ++ zs, _, _, _, _, _, _, _, rfl, same_mut k78 nL, upd_same, ?_, by rw [List.length_append]; omega⟩
          have lvx : LV (NsR H8) us ((List.range i).flatMap fun w => lackW F C (wtAt W w) ms k w) := lv2.mono fun _ _ z => NsR.mn.to z (TK.same (k6.trans k8))
          rw [List.range_succ, List.flatMap_append, List.flatMap_cons, List.flatMap_nil, List.append_nil, ewA]
          exact (lvx.app2 lz).mono fun _ _ z => NsR.mn.to z (TK.mut (TK.refl _) eL8)
    · rintro σ' H1 ⟨us, x7, x8, x9, x10, x11, x12, x13, rfl, k1, eL, lv, lus⟩
      have lw := lW.1
      rw [lw] at lv lus
      exact ⟨_, rfl, q _ _ us k1 nL eL lv (by omega)⟩
end
end Vf

set_option Elab.async false
set_option linter.all false
set_option maxRecDepth 100000
set_option maxHeartbeats 4000000
namespace Vf
open PySem PySem.Spec PyProof.Rows L2 TL
theorem toI_map (c : List Nat) : (toI c).map V.int = c.map nV := by unfold toI; rw [List.map_map]; rfl
theorem parts_sum {parts : List (List Nat)} {i : Nat} {part : List Nat} (e : parts[i]? = some part) : ((parts.take i).map List.length).sum + part.length ≤ (parts.map List.length).sum := by
  have h : (parts.map List.length).sum = ((parts.take (i + 1)).map List.length).sum + ((parts.drop (i + 1)).map List.length).sum := by
    rw [← List.sum_append, ← List.map_append, List.take_append_drop]
  rw [h, take_one e, List.map_append, List.sum_append, List.map_cons, List.map_nil, List.sum_cons, List.sum_nil]
  omega
section
variable {P : Program} {w : World} {K : PySem.W.Frag} {mg : Str → Option Value} {base : Heap}
def spLeastR : Sp := fun vs H Q _ => ∃ (sc v : V) (lv : Nat) (m : Addr) (n L : Nat) (F C : List (List Nat)) (W : List Wt) (D : List (List PyData)) (ms : List Nat), vs = [sc, v, nV lv, .ref m] ∧ ScR H sc F C W ∧ ScOk n F C W ∧ VwR H v D ∧ VwOk n L D ∧ 1 ≤ lv ∧ lv ≤ L ∧ H m = some (.tup (ms.map nV)) ∧ (∀ k ∈ ms, k < n) ∧ ms.length ≤ 24 ∧ reasL F C W (cls (eqs D (lv - 1)) ms) ≠ [] ∧
  ∀ H' x c, Same H H' → NsR H' x c → c ∈ reasL F C W (cls (eqs D (lv - 1)) ms) → (∀ y ∈ reasL F C W (cls (eqs D (lv - 1)) ms), ¬ lt3 y c) → Q x H'
theorem ok_least_reason (T : Txt K mg) : FnOk P w K mg base CX0 3 T.a_least_reason T.d_least_reason ["scene", "views", "level", "members"] spLeastR := by
  have G_classes_at : FnOk P w K mg base CX0 1 T.a_classes_at T.d_classes_at ["views", "level", "members"] spClassesAt := ok_classes_at T
  have G_lacks_of : FnOk P w K mg base CX0 2 T.a_lacks_of T.d_lacks_of ["scene", "part", "k"] spLacks := ok_lacks T
  refine T.D_least_reason.F.ok sc_least_reason (fun vs H Q E h => ?_) (fun cdv A outer s H vs Q E hr h => ?_)
  · obtain ⟨sc, v, lv, m, n, L, F, C, W, D, ms, rfl, _⟩ := h
    rfl
  · obtain ⟨sc, v, lv, m, n, L, F, C, W, D, ms, rfl, hsc, osc, hv, o, lv1, lvL, em, hms, l24, hne, q⟩ := h
    refine ⟨_, (pss_cons (ps_set (i := 4) sc_least_reason.nd rfl (.inl rfl) (pe_lst pa_nil))
      (pss_cons (ps_for PassesOwn.never rfl (pi_tup (pe_call G_classes_at (hr.mono (by decide)) (by rfl) T.D_classes_at.G T.D_classes_at.F.kp T.D_classes_at.B .nil pass0 (pa_cons (pv 1) (pa_cons (pe_op op_sub (pv 2) pe_int) (pa_cons (pv 3) pa_nil))))) (pg_name (i := 5) sc_least_reason.nd rfl (.inr rfl)) (pss_one (ps_expr (pe_bm PySem.F.plainAttrs_list PySem.F.slot_list_extend PySem.F.type_list_extend mt_extend (pv 4) (pa_cons (pe_lc2 (own := [("k", 6), ("lack", 7)]) (vs1 := [7]) (g := gName 6) (g1 := gName 7) (tt := tYes) (tt1 := tYes) (wi1 := iList K _) rfl sc_least_reason.nd (pi_tup (pv 5)) (blkOk_by (own := [("k", 6), ("lack", 7)]) (N := ["scene", "views", "level", "members", "reasons", "part", "k", "lack"]) (sc := (defScope s_least_reason)) (by decide +kernel)) (by decide) (fun _ _ _ _ _ => (pg_name (i := 6) sc_least_reason.nd rfl (.inl rfl))) (fun _ _ _ _ _ => pts_nil) (fun _ _ _ _ _ => (pi_list (pe_call G_lacks_of (hr.mono (by decide)) (by rfl) T.D_lacks_of.G T.D_lacks_of.F.kp T.D_lacks_of.B .nil pass0 (pa_cons (pv 0) (pa_cons (pv 5) (pa_cons (pv 6) pa_nil)))))) (fun _ _ _ _ _ => (pg_name (i := 7) sc_least_reason.nd rfl (.inl rfl))) (fun _ _ _ _ _ => pts_nil) (fun _ _ _ _ _ => (pe_op (r := rCatA K) op_catA (pe_tup (pa_cons (pv 6) pa_nil)) (pv 7)))) pa_nil)))))
      (pss_one (ps_ret (pe_callB (call_minT (by rfl) (Room.units hr)) (by rfl) T.n_min (by decide +kernel) (pa_cons (pv 4) pa_nil)))))), ?_⟩
    refine ⟨by show 0 ≤ sizeLine; decide, fun A nA => ?_⟩
    have k0 := same_upd (o := .lst []) (Same.refl H) nA
    have eA : upd H A (.lst []) A = some (.lst []) := upd_same
    generalize upd H A (.lst []) = H0 at k0 eA
    have el : V.int ((lv : Int) - 1) = nV (lv - 1) := congrArg V.int (by omega)
    refine ⟨_, rfl, _, rfl, _, _, rfl, rfl, _, rfl, v, lv - 1, m, n, L, D, ms, by rw [← el]; rfl, VwR.mn.to hv (TK.same k0), o, by omega, k0 _ _ em, hms, by omega, fun H1 c1 k1 hc => ?_⟩
    obtain ⟨pa, pas, rfl, epa, lpa⟩ := hc
    have k01 := k0.trans k1
    have eA1 := k1 _ _ eA
    have co : CsOk n ms (cls (eqs D (lv - 1)) ms) := cls_ok _
    generalize cls (eqs D (lv - 1)) ms = parts at lpa co hne q
    refine ⟨pa, rfl, ⟨_, SqT.of epa⟩, ?_⟩
    refine for_it (walk_tup (K := K) (a := pa) (xs := pas)) (fun i σ' H' => ∃ (us : List V) (x5 x6 x7 : Option V), σ' = [some sc, some v, some (nV lv), some (.ref m), some (.ref A), x5, x6, x7] ∧ Same H H' ∧ TK H1 H' ∧ H' A = some (.lst us) ∧ LV (NsR H') us (reasL F C W (parts.take i)) ∧ us.length ≤ 30 * ((parts.take i).map List.length).sum) ⟨[], none, none, none, rfl, k01, TK.refl _, eA1, LV.nil, Nat.zero_le _⟩ ?_ ?_ ?_
    · rintro i σ' H' _ ⟨_, _, _, _, _, _, tk, _⟩
      exact SqT.of (tk _ _ epa)
    · rintro i x σ' H2 H3 hi ⟨us, x5, x6, x7, rfl, k2, tk2, eA2, lvu, lus⟩ ⟨rfl, hx⟩
      obtain ⟨part, epart, a2, rfl, ea2⟩ := lpa.at hx
      have ea2 := tk2 _ _ ea2
      have ⟨_, pl2, pm⟩ := co.2.1 part (List.mem_of_getElem? epart)
      have hpl : ∀ k ∈ part, k < n := fun k hk => hms k (pm k hk)
      have psum := parts_sum epart
      rw [co.2.2] at psum
      have ets : ((parts.take (i + 1)).map List.length).sum = ((parts.take i).map List.length).sum + part.length := by
        rw [take_one epart, List.map_append, List.sum_append]; rfl
      have er : reasL F C W (parts.take (i + 1)) = reasL F C W (parts.take i) ++ part.flatMap fun k => (lacksL F C W part k).map (k :: ·) := by
        unfold reasL
        rw [take_one epart, List.flatMap_append, List.flatMap_cons, List.flatMap_nil, List.append_nil]
      rw [er, ets]
      refine ⟨.ref A, rfl, .inl ⟨rfl, _, .inl (.inl eA2)⟩, ?_⟩
      refine ⟨_, rfl, a2, rfl, ⟨_, SqT.of ea2⟩, fun D2 nD2 => ?_⟩
      refine lc2_out (walk_tup (K := K) (a := a2) (xs := part.map nV)) (fun j H' => ∃ zs, H' D2 = some (.lst zs) ∧ LV (NsR H') zs ((part.take j).flatMap fun k => (lacksL F C W part k).map (k :: ·)) ∧ Same H3 H' ∧ zs.length ≤ j * 30) ⟨[], upd_same, LV.nil, same_upd (Same.refl H3) nD2, Nat.zero_le _⟩ ?_ ?_ ?_
      · rintro j H' _ ⟨_, _, _, k8, _⟩
        exact SqT.of (k8 _ _ ea2)
      · rintro j x H4 H5 hj ⟨zs, eD2, lz, k4, lzs⟩ ⟨rfl, hx⟩
        rw [List.length_map] at hj
        rw [nat_at hj] at hx
        have hx := Option.some.inj hx
        subst hx
        have hk := hpl _ (getD_mem (d := 0) hj)
        have et := take_oneD 0 hj
        rw [et, List.flatMap_append, List.flatMap_cons, List.flatMap_nil, List.append_nil]
        generalize part.getD j 0 = k at hk
        refine ⟨rfl, ?_⟩
        have k24 := k2.trans k4
        refine ⟨_, rfl, _, rfl, _, rfl, sc, a2, k, n, F, C, W, part, rfl, hsc.mn (TK.same k24), osc, k4 _ _ ea2, hpl, by omega, hk, fun H6 la lus2 k6 nla ela lvl lul => ?_⟩
        have nlaD : la ≠ D2 := fun z => by rw [z, eD2] at nla; cases nla
        have eD6 := k6 _ _ eD2
        have lz6 : LV (NsR H6) zs ((part.take j).flatMap fun k => (lacksL F C W part k).map (k :: ·)) := lz.mono fun _ _ z => NsR.mn.to z (TK.same k6)
        have hlk : ∀ x ∈ lacksL F C W part k, x ∈ lacksL F C W part k := fun _ h => h
        generalize hl0 : lacksL F C W part k = lk at lvl hlk
        have hlk : ∀ x ∈ lk, x ∈ lacksL F C W part k := fun x h => by rw [hl0]; exact h
        clear hl0
        refine ⟨la, rfl, ⟨_, SqL.of ela⟩, ?_⟩
        have ll := lvl.1
        refine lc2_in (walk_list (K := K) (a := la) (xs := lus2)) (fun i H' => ∃ zs2, H' D2 = some (.lst zs2) ∧ LV (NsR H') zs2 (((part.take j).flatMap fun k => (lacksL F C W part k).map (k :: ·)) ++ (lk.take i).map (k :: ·)) ∧ Same H3 H' ∧ TK H6 H' ∧ H' la = some (.lst lus2) ∧ zs2.length ≤ j * 30 + i) ⟨zs, eD6, by rw [List.take_zero, List.map_nil, List.append_nil]; exact lz6, k4.trans k6, TK.refl _, ela, lzs⟩ ?_ ?_ ?_
        · rintro i H' _ ⟨_, _, _, _, _, h, _⟩
          exact SqL.of h
        · rintro i' y H7 H8 hi2 ⟨zs2, eD7, lz7, k7, tk7, ela7, lzl⟩ ⟨rfl, hy⟩
          obtain ⟨lkx, elk, a3, rfl, ea3⟩ := lvl.at hy
          have ea3 := tk7 _ _ ea3
          refine ⟨rfl, ?_⟩
          refine ⟨_, rfl, by show 1 ≤ sizeLine; decide, fun p np => ?_⟩
          have nDp : D2 ≠ p := ne_of_none eD7 np
          have nlp : la ≠ p := ne_of_none ela7 np
          have k8 := same_upd (o := .tup [nV k]) k7 np
          have tk8 := tk7.new (o := .tup [nV k]) np
          have eD8 : upd H8 p (.tup [nV k]) D2 = some (.lst zs2) := by rw [upd_ne nDp]; exact eD7
          have ela8 : upd H8 p (.tup [nV k]) la = some (.lst lus2) := by rw [upd_ne nlp]; exact ela7
          have ea8 : upd H8 p (.tup [nV k]) a3 = some (.tup (lkx.map nV)) := by rw [upd_ne (ne_of_none ea3 np)]; exact ea3
          have lz8 : LV (NsR (upd H8 p (.tup [nV k]))) zs2 (((part.take j).flatMap fun k => (lacksL F C W part k).map (k :: ·)) ++ (lk.take i').map (k :: ·)) := lz7.mono fun _ _ z => NsR.mn.to z (TK.new (TK.refl _) np)
          have ep8 : upd H8 p (.tup [nV k]) p = some (.tup [nV k]) := upd_same
          generalize upd H8 p (.tup [nV k]) = H9 at k8 tk8 eD8 ela8 ea8 lz8 ep8
          have fin : ∀ (H10 : Hp) (r : Addr), Same H3 H10 → TK H6 H10 → H10 D2 = some (.lst zs2) → H10 la = some (.lst lus2) → LV (NsR H10) zs2 (((part.take j).flatMap fun k => (lacksL F C W part k).map (k :: ·)) ++ (lk.take i').map (k :: ·)) → H10 r = some (.tup ((k :: lkx).map nV)) →
              ∃ acc, H10 D2 = some (.lst acc) ∧ acc.length < sizeLine ∧ ∃ zs3, upd H10 D2 (.lst (acc ++ [V.ref r])) D2 = some (.lst zs3) ∧ LV (NsR (upd H10 D2 (.lst (acc ++ [V.ref r])))) zs3 (((part.take j).flatMap fun k => (lacksL F C W part k).map (k :: ·)) ++ (lk.take (i' + 1)).map (k :: ·)) ∧ Same H3 (upd H10 D2 (.lst (acc ++ [V.ref r]))) ∧ TK H6 (upd H10 D2 (.lst (acc ++ [V.ref r]))) ∧ upd H10 D2 (.lst (acc ++ [V.ref r])) la = some (.lst lus2) ∧ zs3.length ≤ j * 30 + (i' + 1) := fun H10 r k10 tk10 eD10 ela10 lz10 er => by
            refine ⟨zs2, eD10, szN (by omega), zs2 ++ [.ref r], upd_same, ?_, same_mut k10 nD2, tk10.trans (TK.mut (TK.refl _) eD10), by rw [upd_ne nlaD]; exact ela10, by rw [List.length_append]; show zs2.length + 1 ≤ _; omega⟩
            rw [take_one elk, List.map_append, ← List.append_assoc]
            exact (lz10.snoc (⟨r, rfl, er⟩ : NsR H10 (.ref r) (k :: lkx))).mono fun _ _ z => NsR.mn.to z (TK.mut (TK.refl _) eD10)
          refine ⟨_, rfl, p, a3, _, _, rfl, rfl, SqT.of ep8, SqT.of ea8, ?_, (fun z => nomatch z), fun _ z => ?_, fun _ _ r nr => ?_⟩
          · have : lkx.length ≤ 2 := by
              obtain ⟨w, _, hx⟩ := List.mem_flatMap.mp (hlk lkx (List.mem_of_getElem? elk))
              obtain ⟨pr, _, rfl⟩ := List.mem_map.mp hx
              exact Nat.le_refl _
            rw [List.length_map]
            exact Nat.le_of_lt (szN (by show 1 + lkx.length < 100000; omega))
          · have e0 : lkx = [] := List.map_eq_nil_iff.mp z
            exact fin H9 p k8 tk8 eD8 ela8 lz8 (by rw [e0]; exact ep8)
          · exact fin _ r (same_upd k8 nr) (tk8.new nr) (by rw [upd_ne (ne_of_none eD8 nr)]; exact eD8) (by rw [upd_ne (ne_of_none ela8 nr)]; exact ela8) (lz8.mono fun _ _ z => NsR.mn.to z (TK.new (TK.refl _) nr)) upd_same
        · rintro H7 ⟨zs2, eD7, lz7, k7, tk7, ela7, lzl⟩
          rw [List.take_of_length_le (show lk.length ≤ lus2.length by omega)] at lz7
          exact ⟨zs2, eD7, lz7, k7, by omega⟩
      · rintro H4 ⟨zs, eD2, lz, k4, lzs⟩
        rw [List.length_map] at lz lzs
        rw [List.take_length] at lz
        have eA4 := k4 _ _ eA2
        refine ⟨A, D2, us, zs, rfl, rfl, eA4, eD2, Nat.le_of_lt (szN (by omega)), ?_⟩
        have tkm : TK H4 (upd H4 A (.lst (us ++ zs))) := TK.mut (TK.refl _) eA4
        refine ⟨us ++ zs, _, _, _, rfl, same_mut (k2.trans k4) nA, (tk2.trans (TK.same k4)).trans tkm, upd_same, ?_, by rw [List.length_append]; omega⟩
        exact ((lvu.mono fun _ _ z => NsR.mn.to z (TK.same k4)).app2 lz).mono fun _ _ z => NsR.mn.to z tkm
    · rintro σ' H2 ⟨us, x5, x6, x7, rfl, k2, tk2, eA2, lvu, lus⟩
      rw [List.take_of_length_le (by rw [← lpa.1]; exact Nat.le_refl _)] at lvu
      have lu := lvu.1
      refine ⟨_, rfl, A, us, (reasL F C W parts).map toI, rfl, SqL.of eA2, by rw [List.length_map]; exact lu, fun i u c eu ec => ?_, ?_, fun i u c eu ec hmin => ?_⟩
      · obtain ⟨x, ex, p, rfl, ep⟩ := lvu.at eu
        rw [List.getElem?_map, ex] at ec
        have ec : toI x = c := Option.some.inj ec
        exact ⟨p, rfl, SqT.of (by rw [← ec, toI_map]; exact ep)⟩
      · rw [List.length_map]
        cases e : reasL F C W parts with
        | nil => exact absurd e hne
        | cons a b => exact Nat.succ_pos _
      · obtain ⟨x, ex, hx⟩ := lvu.at eu
        rw [List.getElem?_map, ex] at ec
        have ec : toI x = c := Option.some.inj ec
        subst ec
        exact q H2 u x k2 hx (List.mem_of_getElem? ex) fun y hy => hmin _ (List.mem_map.mpr ⟨y, hy, rfl⟩)
end
end Vf

set_option Elab.async false
set_option linter.all false
set_option maxRecDepth 100000
set_option maxHeartbeats 4000000
namespace Vf
open PySem PySem.Spec PyProof.Rows L2 TL
def csAt (D : List (List PyData)) (n : Nat) (pl : List Nat) (k : Nat) : List Nat := clsOf D n (pl.getD k 0) k
def headR (F C : List (List Nat)) (W : List Wt) (D : List (List PyData)) (n : Nat) (x : Nat × List Nat) : List Nat := (rowsL F C W (fun k => clsOf D n (x.1 - 1) k) x.2).headD []
def paperL (F C : List (List Nat)) (W : List Wt) (D : List (List PyData)) (n : Nat) (pubs : List (Nat × List Nat)) : List (List Nat) := (pubs.filter fun x => decide (0 < x.1)).map (headR F C W D n)
/-- what is asked of a published class above level 0 -/
structure PbOk (n L : Nat) (F C : List (List Nat)) (W : List Wt) (D : List (List PyData)) (x : Nat × List Nat) : Prop where
  lt : x.1 < L
  mn : ∀ k ∈ x.2, k < n
  ml : x.2.length ≤ 24
  ne : 0 < x.1 → reasL F C W (cls (eqs D (x.1 - 1)) x.2) ≠ []
  rn : 0 < x.1 → rowsL F C W (fun k => clsOf D n (x.1 - 1) k) x.2 ≠ []
  hd : 0 < x.1 → ∀ c, c ∈ reasL F C W (cls (eqs D (x.1 - 1)) x.2) → (∀ y ∈ reasL F C W (cls (eqs D (x.1 - 1)) x.2), ¬ lt3 y c) → c = headR F C W D n x
section
variable {P : Program} {w : World} {K : PySem.W.Frag} {mg : Str → Option Value} {base : Heap}
def spPub : Sp := fun vs H Q _ => ∃ (v plv : V) (n L : Nat) (D : List (List PyData)) (pl : List Nat), vs = [v, plv] ∧ VwR H v D ∧ VwOk n L D ∧ NsR H plv pl ∧ pl.length = n ∧ (∀ x ∈ pl, x < L) ∧ n ≤ 24 ∧ (∀ k, k < n → csAt D n pl k ≠ []) ∧
  ∀ H' c, Same H H' → TupR (PairR natR NsR) H' c (pubL pl n (csAt D n pl)) → Q c H'
theorem ok_pub (T : Txt K mg) : FnOk P w K mg base CX0 2 T.a_published T.d_published ["views", "plan"] spPub := by
  have G_class_of : FnOk P w K mg base CX0 1 T.a_class_of T.d_class_of ["views", "level", "k"] spClassOf := ok_class_of T
  refine T.D_published.F.ok sc_published (fun vs H Q E h => ?_) (fun cdv A outer s H vs Q E hr h => ?_)
  · obtain ⟨v, plv, n, L, D, pl, rfl, _⟩ := h
    rfl
  · obtain ⟨v, plv, n, L, D, pl, rfl, hv, o, ⟨pa, rfl, epa⟩, lpl, hpl, n24, hne, q⟩ := h
    refine ⟨_, (pss_cons (ps_setLc (i := 2) (own := [("k", 3)]) (g := gName 3) (tt := tYes) rfl sc_published.nd rfl rfl (sw_true rfl rfl rfl (by decide +kernel)) (pi_range1 (by rfl) T.n_range (pa_cons (pe_callB call_len_seq (by rfl) T.n_len PySem.boot_len (pa_cons (pv 1) pa_nil)) pa_nil)) (blkOk_by (own := [("k", 3)]) (N := ["views", "plan", "classes", "k", "level", "members"]) (sc := (defScope s_published)) (by decide +kernel)) (fun _ _ _ _ _ => (pg_name (i := 3) sc_published.nd rfl (.inl rfl))) (fun _ _ _ _ _ => pts_nil) (fun _ _ _ _ _ => (pe_tup (pa_cons (pe_ix (r := rIxT K) ix_tup (pv 1) (pv 3) (fun _ _ => rfl)) (pa_cons (pe_call G_class_of (hr.mono (by decide)) (by rfl) T.D_class_of.G T.D_class_of.F.kp T.D_class_of.B .nil pass0 (pa_cons (pv 0) (pa_cons (pe_ix (r := rIxT K) ix_tup (pv 1) (pv 3) (fun _ _ => rfl)) (pa_cons (pv 3) pa_nil)))) pa_nil)))))
      (pss_one (ps_ret (pe_callTy call_tuple_of (by rfl) T.n_tuple (by decide +kernel) (pa_cons (pe_lc (own := [("k", 3), ("level", 4), ("members", 5)]) (g := (gTup K 2 (gCons (gName 3) (gCons (gTup K 2 (gCons (gName 4) (gCons (gName 5) gNil))) gNil)))) rfl sc_published.nd (pi_enum (by rfl) T.n_enumerate (pa_cons (pv 2) pa_nil)) (blkOk_by (own := [("k", 3), ("level", 4), ("members", 5)]) (N := ["views", "plan", "classes", "k", "level", "members"]) (sc := (defScope s_published)) (by decide +kernel)) (fun _ _ _ _ _ => (pg_tup (by rfl) (pgs_cons (pg_name (i := 3) sc_published.nd rfl (.inl rfl)) (pgs_cons (pg_tup (by rfl) (pgs_cons (pg_name (i := 4) sc_published.nd rfl (.inl rfl)) (pgs_cons (pg_name (i := 5) sc_published.nd rfl (.inl rfl)) pgs_nil))) pgs_nil)))) (fun _ _ _ _ _ => (pts_one (pt_cmpR op_eq (pe_ix (r := rIxT K) ix_tup (pv 5) pe_int (fun _ _ => rfl)) (pv 3) (nomark _)))) (fun _ _ _ _ _ => (pe_tup (pa_cons (pv 4) (pa_cons (pv 5) pa_nil))))) pa_nil))))), ?_⟩
    refine ⟨_, rfl, pa, _, rfl, .inr (SqT.of epa), (n : Int), by rw [List.length_map, lpl], by omega, by omega, ?_⟩
    rw [toNat_k]
    refine fun B nB => ?_
    have pmn : Mn (PairR natR NsR) := PairR.mn natR_mn NsR.mn
    refine lc_it walk_range (fun i H' => ∃ us, H' B = some (.lst us) ∧ LV (PairR natR NsR H') us ((List.range i).map fun k => (pl.getD k 0, csAt D n pl k)) ∧ Same H H') ⟨[], upd_same, LV.nil, same_upd (Same.refl H) nB⟩ (fun _ _ _ _ => trivial) ?_ ?_
    · rintro k x H1 H2 hk ⟨us, eB, lv, k1⟩ ⟨rfl, hx⟩
      have hx : x = nV k := by rw [hx]; exact int0 k
      subst hx
      have gk := atI_nat (nat_at (xs := pl) (i := k) (by omega))
      have hl := hpl _ (getD_mem (xs := pl) (i := k) (d := 0) (by omega))
      have tp := SqT.of (K := K) (k1 _ _ epa)
      refine ⟨rfl, ?_⟩
      refine ⟨_, rfl, _, rfl, pa, _, _, _, rfl, rfl, tp, gk, _, rfl, _, rfl, _, rfl, pa, _, _, _, rfl, rfl, tp, gk, _, rfl, v, pl.getD k 0, k, n, L, D, rfl, VwR.mn.to hv (TK.same k1), o, hl, hk, by omega, fun H3 c k3 hc => ?_⟩
      have eB3 := k3 _ _ eB
      refine ⟨by show 2 ≤ sizeLine; decide, fun p np => ?_⟩
      have nBp : B ≠ p := ne_of_none eB3 np
      have ep : PairR natR NsR (upd H3 p (.tup [nV (pl.getD k 0), c])) (.ref p) (pl.getD k 0, csAt D n pl k) := ⟨p, _, _, rfl, upd_same, rfl, NsR.mn.to hc (TK.new (TK.refl _) np)⟩
      have lv3 : LV (PairR natR NsR (upd H3 p (.tup [nV (pl.getD k 0), c]))) us ((List.range k).map fun k => (pl.getD k 0, csAt D n pl k)) := lv.mono fun _ _ z => pmn.to z ((TK.same k3).new np)
      have eBp : upd H3 p (.tup [nV (pl.getD k 0), c]) B = some (.lst us) := by rw [upd_ne nBp]; exact eB3
      refine ⟨us, eBp, szN (by rw [lv.1, List.length_map, List.length_range]; omega), us ++ [.ref p], upd_same, ?_, same_mut (same_upd (k1.trans k3) np) nB⟩
      rw [List.range_succ, List.map_append]
      exact (lv3.snoc ep).mono fun _ _ z => pmn.to z (TK.mut (TK.refl _) eBp)
    · rintro H1 ⟨us, eB, lv, k1⟩
      have lus := lv.1
      rw [List.length_map, List.length_range] at lus
      refine ⟨_, rfl, B, us, rfl, SqL.of eB, fun D2 nD2 => ?_⟩
      refine lc_it (walk_enum (K := K) (a := B) (xs := us)) (fun i H' => ∃ zs, H' D2 = some (.lst zs) ∧ LV (PairR natR NsR H') zs (pubL pl i (csAt D n pl)) ∧ Same H1 H' ∧ zs.length ≤ i) ⟨[], upd_same, LV.nil, same_upd (Same.refl H1) nD2, Nat.le_refl _⟩ ?_ ?_ ?_
      · rintro i H' _ ⟨_, _, _, k, _⟩
        exact SqL.of (k _ _ eB)
      · rintro i x H2 H3 hi ⟨zs, eD2, lz, k2, lzs⟩ ⟨T', x1, y1, rfl, hT, rfl, hx1, hy1⟩
        have hx1 := Option.some.inj hx1
        subst hx1
        obtain ⟨pr, epr, b, _, cv, rfl, eb, rfl, ca, rfl, eca⟩ := lv.at hy1
        rw [List.getElem?_map, List.getElem?_range (by omega)] at epr
        have epr := Option.some.inj epr
        have hne2 := hne i (by omega)
        have k3 := same_upd (o := .tup [.int (i : Nat), .ref b]) k2 hT
        have eT : upd H2 T' (.tup [.int (i : Nat), .ref b]) T' = some (.tup [.int (i : Nat), .ref b]) := upd_same
        have eD3 : upd H2 T' (.tup [.int (i : Nat), .ref b]) D2 = some (.lst zs) := by rw [upd_ne (ne_of_none eD2 hT)]; exact eD2
        have lz3 : LV (PairR natR NsR (upd H2 T' (.tup [.int (i : Nat), .ref b]))) zs (pubL pl i (csAt D n pl)) := lz.mono fun _ _ z => pmn.to z (TK.new (TK.refl _) hT)
        generalize upd H2 T' (.tup [.int (i : Nat), .ref b]) = H4 at k3 eT eD3 lz3
        have eb4 := k3 _ _ eb
        have eca4 := k3 _ _ eca
        rw [← epr] at eb4 eca4
        refine ⟨T', _, rfl, SqT.of eT, rfl, _, _, rfl, _, _, rfl, b, _, rfl, SqT.of eb4, rfl, _, _, rfl, _, _, rfl, rfl, rfl, rfl, ?_⟩
        obtain ⟨h, r, eh⟩ : ∃ h r, csAt D n pl i = h :: r := by
          cases z : csAt D n pl i with
          | nil => exact absurd z hne2
          | cons h r => exact ⟨h, r, rfl⟩
        have eca5 : H4 ca = some (.tup ((h :: r).map nV)) := by rw [← eh]; exact eca4
        refine ⟨_, rfl, ca, _, _, _, rfl, rfl, SqT.of eca5, atI_nat (j := 0) (v := nV h) rfl, _, rfl, rfl, ?_⟩
        have es : pubL pl (i + 1) (csAt D n pl) = pubL pl i (csAt D n pl) ++ if h = i then [(pl.getD i 0, csAt D n pl i)] else [] := by
          unfold pubL
          rw [List.range_succ, List.filter_append, List.map_append]
          refine congrArg _ ?_
          by_cases e : h = i
          · rw [if_pos e, List.filter_cons_of_pos (by unfold hdAt; rw [eh]; exact decide_eq_true e)]; rfl
          · rw [if_neg e, List.filter_cons_of_neg (by unfold hdAt; rw [eh]; exact fun z => e (of_decide_eq_true z))]; rfl
        rw [es]
        by_cases e : h = i
        · rw [if_pos e]
          refine ⟨true, bTr (congrArg nV e), ?_⟩
          refine ⟨_, rfl, _, rfl, by show 2 ≤ sizeLine; decide, fun p np => ?_⟩
          have nDp : D2 ≠ p := ne_of_none eD3 np
          have ep : PairR natR NsR (upd H4 p (.tup [nV (pl.getD i 0), .ref ca])) (.ref p) (pl.getD i 0, csAt D n pl i) := ⟨p, _, _, rfl, upd_same, rfl, ca, rfl, by rw [upd_ne (ne_of_none eca4 np)]; exact eca4⟩
          have eDp : upd H4 p (.tup [nV (pl.getD i 0), .ref ca]) D2 = some (.lst zs) := by rw [upd_ne nDp]; exact eD3
          refine ⟨zs, eDp, szN (by omega), zs ++ [.ref p], upd_same, ?_, same_mut (same_upd k3 np) nD2, by rw [List.length_append]; exact Nat.succ_le_succ lzs⟩
          exact ((lz3.mono fun _ _ z => pmn.to z (TK.new (TK.refl _) np)).snoc ep).mono fun _ _ z => pmn.to z (TK.mut (TK.refl _) eDp)
        · rw [if_neg e, List.append_nil]
          exact ⟨false, bFa (fun z => e (nV_inj z)), zs, eD3, lz3, k3, by omega⟩
      · rintro H2 ⟨zs, eD2, lz, k2, lzs⟩
        rw [lus] at lz
        refine ⟨D2, _, rfl, .inl ⟨SqL.of eD2, fun p np => ?_⟩⟩
        exact q _ _ (same_upd (k1.trans k2) np) ⟨p, zs, rfl, upd_same, lz.mono fun _ _ z => pmn.to z (TK.new (TK.refl _) np)⟩
def spReasons : Sp := fun vs H Q _ => ∃ (sc v : V) (n L : Nat) (F C : List (List Nat)) (W : List Wt) (D : List (List PyData)) (pl : List Nat), vs = [sc, v] ∧ ScR H sc F C W ∧ ScOk n F C W ∧ VwR H v D ∧ VwOk n L D ∧ 1 ≤ L ∧ 1 ≤ n ∧ L ≤ 100 ∧
  finF (fun lv ms => cls (eqs D lv) ms) (unsB F C W) (n * L + 1) [(L - 1, List.range n)] (List.replicate n 0) = pl ∧ pl.length = n ∧ (∀ x ∈ pl, x < L) ∧ (∀ k, k < n → csAt D n pl k ≠ []) ∧ (∀ x ∈ pubL pl n (csAt D n pl), PbOk n L F C W D x) ∧
  ∀ H' c, Same H H' → TupR NsR H' c (paperL F C W D n (pubL pl n (csAt D n pl))) → Q c H'
theorem ok_reasons (T : Txt K mg) : FnOk P w K mg base CX0 4 T.a_reasons_of T.d_reasons_of ["scene", "views"] spReasons := by
  have G_finest : FnOk P w K mg base CX0 3 T.a_finest T.d_finest ["scene", "views"] spFinest := ok_finest T
  have G_published : FnOk P w K mg base CX0 2 T.a_published T.d_published ["views", "plan"] spPub := ok_pub T
  have G_least_reason : FnOk P w K mg base CX0 3 T.a_least_reason T.d_least_reason ["scene", "views", "level", "members"] spLeastR := ok_least_reason T
  refine T.D_reasons_of.F.ok sc_reasons_of (fun vs H Q E h => ?_) (fun cdv A outer s H vs Q E hr h => ?_)
  · obtain ⟨sc, v, n, L, F, C, W, D, pl, rfl, _⟩ := h
    rfl
  · obtain ⟨sc, v, n, L, F, C, W, D, pl, rfl, hsc, osc, hv, o, L1, n1, L100, efin, lpl, hpl, hcs, hpb, q⟩ := h
    refine ⟨_, (pss_one (ps_ret (pe_callTy call_tuple_of (by rfl) T.n_tuple (by decide +kernel) (pa_cons (pe_lc (own := [("level", 2), ("members", 3)]) (g := (gTup K 2 (gCons (gName 2) (gCons (gName 3) gNil)))) rfl sc_reasons_of.nd (pi_tup (pe_call G_published (hr.mono (by decide)) (by rfl) T.D_published.G T.D_published.F.kp T.D_published.B .nil pass0 (pa_cons (pv 1) (pa_cons (pe_call G_finest (hr.mono (by decide)) (by rfl) T.D_finest.G T.D_finest.F.kp T.D_finest.B .nil pass0 (pa_cons (pv 0) (pa_cons (pv 1) pa_nil))) pa_nil)))) (blkOk_by (own := [("level", 2), ("members", 3)]) (N := ["scene", "views", "level", "members"]) (sc := (defScope s_reasons_of)) (by decide +kernel)) (fun _ _ _ _ _ => (pg_tup (by rfl) (pgs_cons (pg_name (i := 2) sc_reasons_of.nd rfl (.inl rfl)) (pgs_cons (pg_name (i := 3) sc_reasons_of.nd rfl (.inl rfl)) pgs_nil)))) (fun _ _ _ _ _ => (pts_one (pt_cmpR op_gt (pv 2) pe_int (nomark _)))) (fun _ _ _ _ _ => (pe_call G_least_reason (hr.mono (by decide)) (by rfl) T.D_least_reason.G T.D_least_reason.F.kp T.D_least_reason.B .nil pass0 (pa_cons (pv 0) (pa_cons (pv 1) (pa_cons (pv 2) (pa_cons (pv 3) pa_nil))))))) pa_nil)))), ?_⟩
    have nn := osc.nn
    refine ⟨_, rfl, _, rfl, _, rfl, sc, v, n, L, F, C, W, D, rfl, hsc, osc, hv, o, L1, n1, L100, fun H1 p1 k1 hp1 => ?_⟩
    rw [efin] at hp1
    refine ⟨v, p1, n, L, D, pl, rfl, VwR.mn.to hv (TK.same k1), o, hp1, lpl, hpl, nn, hcs, fun H2 c2 k2 hc2 => ?_⟩
    obtain ⟨ta, tus, rfl, eta, lt⟩ := hc2
    have k12 := k1.trans k2
    refine ⟨ta, rfl, ⟨_, SqT.of eta⟩, fun D2 nD2 => ?_⟩
    have ltl := lt.1
    have lpub : (pubL pl n (csAt D n pl)).length ≤ n := by unfold pubL; rw [List.length_map]; exact Nat.le_trans (List.length_filter_le _ _) (by rw [List.length_range]; exact Nat.le_refl _)
    generalize pubL pl n (csAt D n pl) = pubs at lt ltl lpub hpb q
    refine lc_it (walk_tup (K := K) (a := ta) (xs := tus)) (fun i H' => ∃ zs, H' D2 = some (.lst zs) ∧ LV (NsR H') zs (paperL F C W D n (pubs.take i)) ∧ Same H2 H' ∧ zs.length ≤ i) ⟨[], upd_same, LV.nil, same_upd (Same.refl H2) nD2, Nat.le_refl _⟩ ?_ ?_ ?_
    · rintro i H' _ ⟨_, _, _, k, _⟩
      exact SqT.of (k _ _ eta)
    · rintro i x H3 H4 hi ⟨zs, eD2, lz, k3, lzs⟩ ⟨rfl, hx⟩
      obtain ⟨⟨lv, ms⟩, epr, b, _, cv, rfl, eb, rfl, ca, rfl, eca⟩ := lt.at hx
      have pb := hpb _ (List.mem_of_getElem? epr)
      have k23 := k12.trans k3
      refine ⟨b, _, rfl, SqT.of (k3 _ _ eb), rfl, _, _, rfl, _, _, rfl, rfl, rfl, ?_⟩
      have es : paperL F C W D n (pubs.take (i + 1)) = paperL F C W D n (pubs.take i) ++ if 0 < lv then [headR F C W D n (lv, ms)] else [] := by
        unfold paperL
        rw [take_one epr, List.filter_append, List.map_append]
        refine congrArg _ ?_
        by_cases e : 0 < lv
        · rw [if_pos e, List.filter_cons_of_pos (by show decide (0 < lv) = true; exact decide_eq_true e)]; rfl
        · rw [if_neg e, List.filter_cons_of_neg (by show ¬ decide (0 < lv) = true; exact fun z => e (of_decide_eq_true z))]; rfl
      rw [es]
      by_cases e : 0 < lv
      · rw [if_pos e]
        refine ⟨_, rfl, _, _, rfl, rfl, true, bTr (show (0 : Int) < (lv : Int) by omega), ?_⟩
        have plt := pb.lt
        have plt : lv < L := plt
        refine ⟨_, rfl, _, rfl, _, rfl, _, rfl, sc, v, lv, ca, n, L, F, C, W, D, ms, rfl, hsc.mn (TK.same k23), osc, VwR.mn.to hv (TK.same k23), o, e, by omega, k3 _ _ eca, pb.mn, pb.ml, pb.ne e, fun H5 x c k5 hx hc hmin => ?_⟩
        have ec := pb.hd e c hc hmin
        rw [ec] at hx
        have eD5 := k5 _ _ eD2
        refine ⟨zs, eD5, szN (by omega), zs ++ [x], upd_same, ?_, same_mut (k3.trans k5) nD2, by rw [List.length_append]; exact Nat.succ_le_succ lzs⟩
        exact ((lz.mono fun _ _ z => NsR.mn.to z (TK.same k5)).snoc hx).mono fun _ _ z => NsR.mn.to z (TK.mut (TK.refl _) eD5)
      · rw [if_neg e, List.append_nil]
        exact ⟨_, rfl, _, _, rfl, rfl, false, bFa (show ¬ (0 : Int) < (lv : Int) by omega), zs, eD2, lz, k3, by omega⟩
    · rintro H3 ⟨zs, eD2, lz, k3, lzs⟩
      rw [List.take_of_length_le (by omega)] at lz
      refine ⟨D2, _, rfl, .inl ⟨SqL.of eD2, fun p np => ?_⟩⟩
      exact q _ _ (same_upd (k12.trans k3) np) ⟨p, zs, rfl, upd_same, lz.mono fun _ _ z => NsR.mn.to z (TK.new (TK.refl _) np)⟩
end
end Vf

set_option Elab.async false
set_option linter.all false
set_option maxRecDepth 100000
set_option maxHeartbeats 4000000
namespace Vf
open PySem PySem.Spec PyProof.Rows L2 TL
def oneL (D : List (List PyData)) (n : Nat) (pl : List Nat) (k : Nat) : List Nat := (List.range n).filter fun m => decide (pl.getD m 0 = pl.getD k 0) && eqs D (pl.getD k 0) m k
def fndL (cs : Nat → List Nat) (i : Nat) : List (List Nat) := ((List.range i).filter (hdAt cs)).map cs
theorem fnd_succ (cs : Nat → List Nat) (i : Nat) : fndL cs (i + 1) = fndL cs i ++ if hdAt cs i = true then [cs i] else [] := by
  unfold fndL
  rw [List.range_succ, List.filter_append, List.map_append]
  refine congrArg _ ?_
  by_cases e : hdAt cs i = true
  · rw [if_pos e, List.filter_cons_of_pos e]; rfl
  · rw [if_neg e, List.filter_cons_of_neg e]; rfl
/-- a list of numbers that is new since H0, not at x -/
def LsF (H0 : Hp) (x : Addr) (H : Hp) (v : V) (ms : List Nat) : Prop := ∃ a, v = .ref a ∧ a ≠ x ∧ H0 a = none ∧ H a = some (.lst (ms.map nV))
theorem LsF.off {H0 H H' : Hp} {x : Addr} {v : V} {ms : List Nat} (h : LsF H0 x H v ms) (k : ∀ b o, b ≠ x → H b = some o → H' b = some o) : LsF H0 x H' v ms := by
  obtain ⟨a, e, n1, n2, h⟩ := h
  exact ⟨a, e, n1, n2, k _ _ n1 h⟩
theorem fnd_len (cs : Nat → List Nat) (i : Nat) : (fndL cs i).length ≤ i := by
  unfold fndL
  rw [List.length_map]
  exact Nat.le_trans (List.length_filter_le _ _) (by rw [List.length_range]; exact Nat.le_refl _)
theorem flat_le {cs : List (List Nat)} {b : Nat} (h : ∀ c ∈ cs, c.length ≤ b) : cs.flatten.length ≤ cs.length * b := by
  induction cs with
  | nil => exact Nat.zero_le _
  | cons c cs ih =>
    rw [List.flatten_cons, List.length_append, List.length_cons, Nat.add_mul]
    have := h c List.mem_cons_self
    have := ih fun c hc => h c (List.mem_cons_of_mem _ hc)
    omega
section
variable {P : Program} {w : World} {K : PySem.W.Frag} {mg : Str → Option Value} {base : Heap}
def spLPub : Sp := fun vs H Q _ => ∃ (v plv : V) (n L : Nat) (D : List (List PyData)) (pl : List Nat), vs = [v, plv] ∧ VwR H v D ∧ VwOk n L D ∧ NsR H plv pl ∧ pl.length = n ∧ (∀ x ∈ pl, x < L) ∧ n ≤ 24 ∧ (∀ k, k < n → oneL D n pl k = csAt D n pl k) ∧ (∀ i, i < n → (i ∈ (fndL (csAt D n pl) i).flatten ↔ hdAt (csAt D n pl) i = false)) ∧
  ∀ H' A us, Same H H' → H A = none → H' A = some (.lst us) → LV (LsF H A H') us (fndL (csAt D n pl) n) → Q (.ref A) H'
theorem ok_lpub (T : Txt K mg) : FnOk P w K mg base CX0 1 T.a_law_published T.d_law_published ["_law_views", "_law_plan"] spLPub := by
  refine T.D_law_published.F.ok sc_law_published (fun vs H Q E h => ?_) (fun cdv A outer s H vs Q E hr h => ?_)
  · obtain ⟨v, plv, n, L, D, pl, rfl, _⟩ := h
    rfl
  · obtain ⟨v, plv, n, L, D, pl, rfl, hv, o, ⟨pa, rfl, epa⟩, lpl, hpl, n24, hone, hseen, q⟩ := h
    refine ⟨_, (pss_cons (ps_set (i := 2) sc_law_published.nd rfl (.inl rfl) (pe_lst pa_nil))
      (pss_cons (ps_set (i := 3) sc_law_published.nd rfl (.inl rfl) (pe_lst pa_nil))
      (pss_cons (ps_for PassesOwn.never rfl (pi_range1 (by rfl) T.n_range (pa_cons (pe_callB call_len_seq (by rfl) T.n_len PySem.boot_len (pa_cons (pv 1) pa_nil)) pa_nil)) (pg_name (i := 4) sc_law_published.nd rfl (.inr rfl)) (pss_one (ps_if (pt_cmpR op_notIn_seq (pv 4) (pv 3) (by rfl)) (pss_cons (ps_setLc (i := 5) (own := [("_law_n", 6)]) (g := gName 6) rfl sc_law_published.nd rfl rfl (sw_true rfl rfl rfl (by decide +kernel)) (pi_range1 (by rfl) T.n_range (pa_cons (pe_callB call_len_seq (by rfl) T.n_len PySem.boot_len (pa_cons (pv 1) pa_nil)) pa_nil)) (blkOk_by (own := [("_law_n", 6)]) (N := ["_law_views", "_law_plan", "_law_found", "_law_seen", "_law_k", "_law_one", "_law_n"]) (sc := (defScope s_law_published)) (by decide +kernel)) (fun _ _ _ _ _ => (pg_name (i := 6) sc_law_published.nd rfl (.inl rfl))) (fun _ _ _ _ _ => (pts_one (PW.pt (pw_and (pt_cmpR op_eq (pe_ix (r := rIxT K) ix_tup (pv 1) (pv 6) (fun _ _ => rfl)) (pe_ix (r := rIxT K) ix_tup (pv 1) (pv 4) (fun _ _ => rfl)) (nomark _)) (pw_and1 (pt_cmpR (r := rEqD K) (op_eqD (Room.units hr)) (pe_ix (r := rIxT K) ix_tup (pe_ix (r := rIxT K) ix_tup (pv 0) (pv 6) (fun _ _ => rfl)) (pe_ix (r := rIxT K) ix_tup (pv 1) (pv 4) (fun _ _ => rfl)) (fun _ _ => rfl)) (pe_ix (r := rIxT K) ix_tup (pe_ix (r := rIxT K) ix_tup (pv 0) (pv 4) (fun _ _ => rfl)) (pe_ix (r := rIxT K) ix_tup (pv 1) (pv 4) (fun _ _ => rfl)) (fun _ _ => rfl)) (nomark _))))))) (fun _ _ _ _ _ => (pv 6)))
      (pss_cons (ps_set (i := 3) sc_law_published.nd rfl (.inl rfl) (pe_op op_cat (pv 3) (pv 5)))
      (pss_one (ps_expr (pe_bm PySem.F.plainAttrs_list PySem.F.slot_list_append PySem.F.type_list_append mt_append (pv 2) (pa_cons (pv 5) pa_nil)))))) pss_nil)))
      (pss_one (ps_ret (pv 2)))))), ?_⟩
    obtain ⟨va, vus, rfl, eva, lvu, hat⟩ := hv.get o
    refine ⟨by show 0 ≤ sizeLine; decide, fun B nB => ⟨by show 0 ≤ sizeLine; decide, fun S nS => ?_⟩⟩
    have nBS : B ≠ S := ne_of_none (o := .lst []) upd_same nS
    have k0 := same_upd (o := .lst []) (same_upd (o := .lst []) (Same.refl H) nB) nS
    have nSH : H S = none := by rw [upd_ne nBS.symm] at nS; exact nS
    have eB0 : upd (upd H B (.lst [])) S (.lst []) B = some (.lst []) := by rw [upd_ne nBS]; exact upd_same
    have eS0 : upd (upd H B (.lst [])) S (.lst []) S = some (.lst []) := upd_same
    generalize upd (upd H B (.lst [])) S (.lst []) = H0 at k0 eB0 eS0
    refine ⟨_, rfl, pa, _, rfl, .inr (SqT.of (k0 _ _ epa)), (n : Int), by rw [List.length_map, lpl], by omega, by omega, ?_⟩
    rw [toNat_k]
    refine for_it walk_range (fun i σ' H' => ∃ (us : List V) (S : Addr) (x4 x5 x6 : Option V), σ' = [some (.ref va), some (.ref pa), some (.ref B), some (.ref S), x4, x5, x6] ∧ Same H H' ∧ H' B = some (.lst us) ∧ LV (LsF H B H') us (fndL (csAt D n pl) i) ∧ H' S = some (.lst ((fndL (csAt D n pl) i).flatten.map nV))) ⟨[], S, none, none, none, rfl, k0, eB0, LV.nil, eS0⟩ (fun _ _ _ _ _ => trivial) ?_ ?_
    · rintro k x σ' H1 H2 hk ⟨us, S, x4, x5, x6, rfl, k1, eB, lv, eS⟩ ⟨rfl, hx⟩
      have hx : x = nV k := by rw [hx]; exact int0 k
      subst hx
      have gk := atI_nat (nat_at (xs := pl) (i := k) (by omega))
      have hl := hpl _ (getD_mem (xs := pl) (i := k) (d := 0) (by omega))
      have hs := hseen k hk
      rw [fnd_succ]
      refine ⟨_, rfl, _, rfl, S, _, rfl, .inl (SqL.of eS), rfl, flat_nats _, ?_⟩
      by_cases hh : hdAt (csAt D n pl) k = true
      · have nin : k ∉ (fndL (csAt D n pl) k).flatten := fun z => by rw [hs.mp z] at hh; cases hh
        rw [if_pos hh]
        refine ⟨true, by rw [inV_nats, decide_eq_false nin]; rfl, ?_⟩
        refine ⟨_, rfl, pa, _, rfl, .inr (SqT.of (k1 _ _ epa)), (n : Int), by rw [List.length_map, lpl], by omega, by omega, ?_⟩
        rw [toNat_k]
        refine fun C nC => ?_
        obtain ⟨rk, rks, erk, erk2, lrk, hlk⟩ := hat k hk
        obtain ⟨vx, evx, tvx⟩ := hlk _ hl
        have e1 := hone k hk
        have hcl : (csAt D n pl k).length ≤ n := clsOf_len D n _ k
        rw [← e1]
        unfold oneL
        generalize pl.getD k 0 = lvl at gk hl evx tvx
        refine lc_it walk_range (fun j H' => H' C = some (.lst (((List.range j).filter fun m => decide (pl.getD m 0 = lvl) && eqs D lvl m k).map nV)) ∧ Same H2 H') ⟨upd_same, same_upd (Same.refl H2) nC⟩ (fun _ _ _ _ => trivial) ?_ ?_
        · rintro j x H3 H4 hj ⟨eC, k3⟩ ⟨rfl, hx⟩
          have hx : x = nV j := by rw [hx]; exact int0 j
          subst hx
          have kk := k1.trans k3
          obtain ⟨rj, rjs, erj, erj2, lrj, hlj⟩ := hat j hj
          obtain ⟨vy, evy, tvy⟩ := hlj _ hl
          have e1 : okD (dat D j lvl) := o.ok hj hl
          have e2 : okD (dat D k lvl) := o.ok hk hl
          have lm : ((List.range j).filter fun m => decide (pl.getD m 0 = lvl) && eqs D lvl m k).length ≤ j := Nat.le_trans (List.length_filter_le _ _) (by rw [List.length_range]; exact Nat.le_refl _)
          have tp := SqT.of (K := K) (kk _ _ epa)
          refine ⟨rfl, ?_⟩
          refine ⟨_, rfl, _, rfl, pa, _, _, _, rfl, rfl, tp, atI_nat (nat_at (i := j) (by omega)), _, rfl, _, rfl, pa, _, _, _, rfl, rfl, tp, gk, rfl, ?_⟩
          rw [List.range_succ, List.filter_append]
          by_cases c : pl.getD j 0 = lvl
          · refine ⟨true, bTr (congrArg nV c), ?_⟩
            refine ⟨_, rfl, _, rfl, va, _, _, _, rfl, rfl, SqT.of (kk _ _ eva), atI_nat erj, _, rfl, _, rfl, pa, _, _, _, rfl, rfl, tp, gk, rj, _, _, _, rfl, rfl, SqT.of (kk _ _ erj2), atI_nat evy, _, rfl, _, rfl, va, _, _, _, rfl, rfl, SqT.of (kk _ _ eva), atI_nat erk, _, rfl, _, rfl, pa, _, _, _, rfl, rfl, tp, gk, rk, _, _, _, rfl, rfl, SqT.of (kk _ _ erk2), atI_nat evx, _, _, (Td.to (TK.same kk) tvy).dp, (Td.to (TK.same kk) tvx).dp, e1.sh, e2.sh, ?_⟩
            cases e : eqs D lvl j k with
            | true =>
              have e' : PyData.eqv (dat D j lvl) (dat D k lvl) = true := e
              refine ⟨true, by rw [e'], ?_⟩
              refine ⟨_, rfl, _, eC, szN (by rw [List.length_map]; omega), ?_, same_mut k3 nC⟩
              rw [upd_same, List.filter_cons_of_pos (by rw [e, decide_eq_true c]; rfl), List.map_append]; rfl
            | false =>
              have e' : PyData.eqv (dat D j lvl) (dat D k lvl) = false := e
              refine ⟨false, by rw [e'], ?_⟩
              rw [List.filter_cons_of_neg (by rw [e, Bool.and_false]; decide), List.filter_nil, List.append_nil]
              exact ⟨eC, k3⟩
          · refine ⟨false, bFa (fun z => c (nV_inj z)), ?_⟩
            rw [List.filter_cons_of_neg (by rw [decide_eq_false c, Bool.false_and]; decide), List.filter_nil, List.append_nil]
            exact ⟨eC, k3⟩
        · rintro H3 ⟨eC, k3⟩
          have lol : ((List.range n).filter fun m => decide (pl.getD m 0 = lvl) && eqs D lvl m k).length ≤ n := Nat.le_trans (List.length_filter_le _ _) (by rw [List.length_range]; exact Nat.le_refl _)
          generalize (List.range n).filter (fun m => decide (pl.getD m 0 = lvl) && eqs D lvl m k) = one at eC lol
          have eS3 := k3 _ _ eS
          have eB3 := k3 _ _ eB
          have nBC : B ≠ C := ne_of_none eB nC
          have fl := flat_le (cs := fndL (csAt D n pl) k) (b := 24) fun c hc => by
            obtain ⟨j, _, rfl⟩ := List.mem_map.mp hc
            exact Nat.le_trans (clsOf_len D n _ j) n24
          have fk := fnd_len (csAt D n pl) k
          have flm := Nat.mul_le_mul_right 24 fk
          refine ⟨_, rfl, _, rfl, S, C, _, _, rfl, rfl, eS3, eC, Nat.le_of_lt (szN (by rw [List.length_map, List.length_map]; omega)), fun p np => ?_⟩
          have nBp : B ≠ p := ne_of_none eB3 np
          have k4 := same_upd (o := .lst ((fndL (csAt D n pl) k).flatten.map nV ++ one.map nV)) (k1.trans k3) np
          have eB4 : upd H3 p (.lst ((fndL (csAt D n pl) k).flatten.map nV ++ one.map nV)) B = some (.lst us) := by rw [upd_ne nBp]; exact eB3
          have eC4 : upd H3 p (.lst ((fndL (csAt D n pl) k).flatten.map nV ++ one.map nV)) C = some (.lst (one.map nV)) := by rw [upd_ne (ne_of_none eC np)]; exact eC
          have ep4 : upd H3 p (.lst ((fndL (csAt D n pl) k).flatten.map nV ++ one.map nV)) p = some (.lst ((fndL (csAt D n pl) k ++ [one]).flatten.map nV)) := by
            rw [upd_same, List.flatten_append, List.map_append, List.flatten_cons, List.flatten_nil, List.append_nil]
          have lv4 : LV (LsF H B (upd H3 p (.lst ((fndL (csAt D n pl) k).flatten.map nV ++ one.map nV)))) us (fndL (csAt D n pl) k) := lv.mono fun _ _ z => z.off fun b o _ h => by rw [upd_ne (ne_of_none (k3 _ _ h) np)]; exact k3 _ _ h
          generalize upd H3 p (.lst ((fndL (csAt D n pl) k).flatten.map nV ++ one.map nV)) = H4 at k4 eB4 eC4 ep4 lv4
          refine ⟨.ref B, rfl, .inl ⟨rfl, _, .inl (.inl eB4)⟩, _, rfl, B, us, _, rfl, rfl, eB4, szN (by rw [lv.1]; omega), ?_⟩
          refine ⟨us ++ [.ref C], p, _, _, _, rfl, same_mut k4 nB, upd_same, ?_, by rw [upd_ne nBp.symm]; exact ep4⟩
          exact (lv4.snoc ⟨C, rfl, nBC.symm, none_same k1 nC, eC4⟩).mono fun _ _ z => z.off fun b o n h => by rw [upd_ne n]; exact h
      · have hh2 : hdAt (csAt D n pl) k = false := by
          cases z : hdAt (csAt D n pl) k with
          | false => rfl
          | true => exact absurd z hh
        have inn := hs.mpr hh2
        rw [if_neg hh, List.append_nil]
        refine ⟨false, by rw [inV_nats, decide_eq_true inn]; rfl, ?_⟩
        exact ⟨us, S, _, _, _, rfl, k1, eB, lv, eS⟩
    · rintro σ' H1 ⟨us, S, x4, x5, x6, rfl, k1, eB, lv, eS⟩
      exact ⟨_, rfl, q _ _ us k1 nB eB lv⟩
def spRows : Sp := fun vs H Q _ => ∃ (sc v : V) (m : Addr) (lv n L : Nat) (F C : List (List Nat)) (W : List Wt) (D : List (List PyData)) (ms : List Nat), vs = [sc, v, .ref m, nV lv] ∧ ScR H sc F C W ∧ ScOk n F C W ∧ VwR H v D ∧ VwOk n L D ∧ 1 ≤ lv ∧ lv ≤ L ∧ H m = some (.lst (ms.map nV)) ∧ (∀ k ∈ ms, k < n) ∧ ms.length ≤ 24 ∧
  ∀ H' a us, Same H H' → H a = none → H' a = some (.lst us) → LV (NsR H') us (rowsL F C W (fun k => clsOf D n (lv - 1) k) ms) → Q (.ref a) H'
theorem ok_rows (T : Txt K mg) : FnOk P w K mg base CX0 2 T.a_law_plan_rows T.d_law_plan_rows ["_law_scene", "_law_views", "_law_members", "_law_level"] spRows := by
  have G_law_ways : FnOk P w K mg base CX0 1 T.a_law_ways T.d_law_ways ["_law_counts", "_law_fillings", "_law_secret"] (spWays K) := ok_ways T
  refine T.D_law_plan_rows.F.ok sc_law_plan_rows (fun vs H Q E h => ?_) (fun cdv A outer s H vs Q E hr h => ?_)
  · obtain ⟨sc, v, m, lv, n, L, F, C, W, D, ms, rfl, _⟩ := h
    rfl
  · obtain ⟨sc, v, m, lv, n, L, F, C, W, D, ms, rfl, hSc, osc, hv, o, lv1, lvL, em, hms, l24, q⟩ := h
    refine ⟨_, (pss_cons (ps_set (i := 4) sc_law_plan_rows.nd rfl (.inl rfl) (pe_lst pa_nil))
      (pss_cons (ps_for PassesOwn.never rfl (pi_list (pv 2)) (pg_name (i := 5) sc_law_plan_rows.nd rfl (.inr rfl)) (pss_cons (ps_setLc (i := 6) (own := [("_law_n", 13)]) (g := gName 13) rfl sc_law_plan_rows.nd rfl rfl (sw_true rfl rfl rfl (by decide +kernel)) (pi_range1 (by rfl) T.n_range (pa_cons (pe_callB call_len_seq (by rfl) T.n_len PySem.boot_len (pa_cons (pv 1) pa_nil)) pa_nil)) (blkOk_by (own := [("_law_n", 13)]) (N := ["_law_scene", "_law_views", "_law_members", "_law_level", "_law_found", "_law_k", "_law_low", "_law_w", "_law_groups", "_law_guards", "_law_inside", "_law_secret", "_law_least", "_law_n"]) (sc := (defScope s_law_plan_rows)) (by decide +kernel)) (fun _ _ _ _ _ => (pg_name (i := 13) sc_law_plan_rows.nd rfl (.inl rfl))) (fun _ _ _ _ _ => (pts_one (pt_cmpR (r := rEqD K) (op_eqD (Room.units hr)) (pe_ix (r := rIxT K) ix_tup (pe_ix (r := rIxT K) ix_tup (pv 1) (pv 13) (fun _ _ => rfl)) (pe_op op_sub (pv 3) pe_int) (fun _ _ => rfl)) (pe_ix (r := rIxT K) ix_tup (pe_ix (r := rIxT K) ix_tup (pv 1) (pv 5) (fun _ _ => rfl)) (pe_op op_sub (pv 3) pe_int) (fun _ _ => rfl)) (nomark _)))) (fun _ _ _ _ _ => (pv 13)))
      (pss_one (ps_for PassesOwn.never rfl (pi_range1 (by rfl) T.n_range (pa_cons (pe_callB call_len_seq (by rfl) T.n_len PySem.boot_len (pa_cons (pe_ix ix_tup (pv 0) pe_int (fun _ _ => rfl)) pa_nil)) pa_nil)) (pg_name (i := 7) sc_law_plan_rows.nd rfl (.inl rfl)) (pss_cons (ps_asg (pe_ix ix_tup (pe_ix ix_tup (pv 0) pe_int (fun _ _ => rfl)) (pv 7) (fun _ _ => rfl)) (pg_tup (by rfl) (pgs_cons (pg_name (i := 8) sc_law_plan_rows.nd rfl (.inr rfl)) (pgs_cons (pg_name (i := 9) sc_law_plan_rows.nd rfl (.inl rfl)) pgs_nil))))
      (pss_cons (ps_setLc (i := 10) (own := [("_law_n", 13)]) (g := gName 13) rfl sc_law_plan_rows.nd rfl rfl (sw_true rfl rfl rfl (by decide +kernel)) (pi_list (pv 6)) (blkOk_by (own := [("_law_n", 13)]) (N := ["_law_scene", "_law_views", "_law_members", "_law_level", "_law_found", "_law_k", "_law_low", "_law_w", "_law_groups", "_law_guards", "_law_inside", "_law_secret", "_law_least", "_law_n"]) (sc := (defScope s_law_plan_rows)) (by decide +kernel)) (fun _ _ _ _ _ => (pg_name (i := 13) sc_law_plan_rows.nd rfl (.inl rfl))) (fun _ _ _ _ _ => (pts_one (pt_cmpR op_eq (pe_ix (r := rIxT K) ix_tup (pv 8) (pv 13) (fun _ _ => rfl)) (pe_ix (r := rIxT K) ix_tup (pv 8) (pv 5) (fun _ _ => rfl)) (nomark _)))) (fun _ _ _ _ _ => (pe_ix (r := rIxT K) ix_tup (pe_ix (r := rIxT K) ix_tup (pv 0) pe_int (fun _ _ => rfl)) (pv 13) (fun _ _ => rfl))))
      (pss_one (ps_for PassesOwn.never rfl (pi_tup (pe_ix ix_tup (pv 9) (pe_ix ix_tup (pv 8) (pv 5) (fun _ _ => rfl)) (fun _ _ => rfl))) (pg_tup (by rfl) (pgs_cons (pg_name (i := 11) sc_law_plan_rows.nd rfl (.inl rfl)) (pgs_cons (pg_name (i := 12) sc_law_plan_rows.nd rfl (.inl rfl)) pgs_nil))) (pss_one (ps_if (pt_cmpR op_lt (pe_call G_law_ways (hr.mono (by decide)) (by rfl) T.D_law_ways.G T.D_law_ways.F.kp T.D_law_ways.B .nil pass0 (pa_cons (pe_ix ix_tup (pv 0) pe_int (fun _ _ => rfl)) (pa_cons (pv 10) (pa_cons (pv 11) pa_nil)))) (pv 12) (nomark _)) (pss_one (ps_expr (pe_bm PySem.F.plainAttrs_list PySem.F.slot_list_append PySem.F.type_list_append mt_append (pv 4) (pa_cons (pe_tup (pa_cons (pv 5) (pa_cons (pv 7) (pa_cons (pv 11) pa_nil)))) pa_nil)))) pss_nil))))))))))
      (pss_one (ps_ret (pv 4))))), ?_⟩
    have nn := osc.nn
    obtain ⟨va, vus, rfl, eva, lvu, hat⟩ := hv.get o
    obtain ⟨a, f, c, wv, rfl, ea, hF, hC, wa, wus, rfl, ewa, lW⟩ := hSc
    obtain ⟨fa, fus, rfl, efa, lF⟩ := id hF
    have owl := osc.wl
    have lw := lW.1
    refine ⟨by show 0 ≤ sizeLine; decide, fun B nB => ?_⟩
    have k0 := same_upd (o := .lst []) (Same.refl H) nB
    have eB0 : upd H B (.lst []) B = some (.lst []) := upd_same
    generalize upd H B (.lst []) = H0 at k0 eB0
    refine ⟨_, rfl, m, rfl, ⟨_, SqL.of (k0 _ _ em)⟩, ?_⟩
    have el : ((lv : Int) - 1) = ((lv - 1 : Nat) : Int) := by omega
    refine for_it (walk_list (K := K) (a := m) (xs := ms.map nV)) (fun i σ' H' => ∃ (us : List V) (x5 x6 x7 x8 x9 x10 x11 x12 x13 : Option V), σ' = [some (.ref a), some (.ref va), some (.ref m), some (nV lv), some (.ref B), x5, x6, x7, x8, x9, x10, x11, x12, x13] ∧ Same H H' ∧ H' B = some (.lst us) ∧ LV (NsR H') us (rowsL F C W (fun k => clsOf D n (lv - 1) k) (ms.take i)) ∧ us.length ≤ i * 30) ⟨[], none, none, none, none, none, none, none, none, none, rfl, k0, eB0, LV.nil, Nat.zero_le _⟩ ?_ ?_ ?_
    · rintro i σ' H' _ ⟨_, _, _, _, _, _, _, _, _, _, _, k, _⟩
      exact SqL.of (k _ _ em)
    · rintro i x σ' H1 H2 hi ⟨us, x5, x6, x7, x8, x9, x10, x11, x12, x13, rfl, k1, eB, lvr, lus⟩ ⟨rfl, hx⟩
      rw [List.length_map] at hi
      rw [nat_at hi] at hx
      have hx := Option.some.inj hx
      subst hx
      have hk := hms _ (getD_mem (d := 0) hi)
      have er : rowsL F C W (fun k => clsOf D n (lv - 1) k) (ms.take (i + 1)) = rowsL F C W (fun k => clsOf D n (lv - 1) k) (ms.take i) ++ (lacksL F C W (clsOf D n (lv - 1) (ms.getD i 0)) (ms.getD i 0)).map (ms.getD i 0 :: ·) := by
        unfold rowsL
        rw [take_oneD 0 hi, List.flatMap_append, List.flatMap_cons, List.flatMap_nil, List.append_nil]
      rw [er]
      generalize ms.getD i 0 = k at hk
      refine ⟨_, rfl, va, _, rfl, .inr (SqT.of (k1 _ _ eva)), (n : Int), by rw [lvu], by omega, by omega, ?_⟩
      rw [toNat_k]
      refine fun C2 nC => ?_
      obtain ⟨rk, rks, erk, erk2, lrk, hlk⟩ := hat k hk
      obtain ⟨vx, evx, tvx⟩ := hlk (lv - 1) (by omega)
      have evx : atI rks ((lv : Int) - 1) = some vx := by rw [el]; exact atI_nat evx
      refine lc_it walk_range (fun j H' => H' C2 = some (.lst (((List.range j).filter fun o => eqs D (lv - 1) o k).map nV)) ∧ Same H2 H') ⟨upd_same, same_upd (Same.refl H2) nC⟩ (fun _ _ _ _ => trivial) ?_ ?_
      · rintro j x H3 H4 hj ⟨eC, k3⟩ ⟨rfl, hx⟩
        have hx : x = nV j := by rw [hx]; exact int0 j
        subst hx
        have kk := k1.trans k3
        obtain ⟨rj, rjs, erj, erj2, lrj, hlj⟩ := hat j hj
        obtain ⟨vy, evy, tvy⟩ := hlj (lv - 1) (by omega)
        have evy : atI rjs ((lv : Int) - 1) = some vy := by rw [el]; exact atI_nat evy
        have e1 : okD (dat D j (lv - 1)) := o.ok hj (by omega)
        have e2 : okD (dat D k (lv - 1)) := o.ok hk (by omega)
        have lm : ((List.range j).filter fun o => eqs D (lv - 1) o k).length ≤ j := Nat.le_trans (List.length_filter_le _ _) (by rw [List.length_range]; exact Nat.le_refl _)
        refine ⟨rfl, ?_⟩
        refine ⟨_, rfl, _, rfl, va, _, _, _, rfl, rfl, SqT.of (kk _ _ eva), atI_nat erj, _, rfl, _, _, rfl, rfl, rj, _, _, _, rfl, rfl, SqT.of (kk _ _ erj2), evy, _, rfl, _, rfl, va, _, _, _, rfl, rfl, SqT.of (kk _ _ eva), atI_nat erk, _, rfl, _, _, rfl, rfl, rk, _, _, _, rfl, rfl, SqT.of (kk _ _ erk2), evx, _, _, (Td.to (TK.same kk) tvy).dp, (Td.to (TK.same kk) tvx).dp, e1.sh, e2.sh, ?_⟩
        cases e : eqs D (lv - 1) j k with
        | true =>
          have e' : PyData.eqv (dat D j (lv - 1)) (dat D k (lv - 1)) = true := e
          refine ⟨true, by rw [e'], ?_⟩
          refine ⟨_, rfl, _, eC, szN (by rw [List.length_map]; omega), ?_, same_mut k3 nC⟩
          rw [upd_same, List.range_succ, List.filter_append, List.filter_cons_of_pos (by rw [e]), List.map_append]; rfl
        | false =>
          have e' : PyData.eqv (dat D j (lv - 1)) (dat D k (lv - 1)) = false := e
          refine ⟨false, by rw [e'], ?_⟩
          rw [List.range_succ, List.filter_append, List.filter_cons_of_neg (by rw [e]; decide), List.filter_nil, List.append_nil]
          exact ⟨eC, k3⟩
      · rintro H3 ⟨eC, k3⟩
        have eC : H3 C2 = some (.lst ((clsOf D n (lv - 1) k).map nV)) := eC
        have hlow : ∀ x ∈ clsOf D n (lv - 1) k, x < n := clsOf_lt
        have llow := clsOf_len D n (lv - 1) k
        generalize clsOf D n (lv - 1) k = low at eC hlow llow
        have k13 := k1.trans k3
        have eB3 := k3 _ _ eB
        have ea3 := k13 _ _ ea
        have lvr3 : LV (NsR H3) us (rowsL F C W (fun k => clsOf D n (lv - 1) k) (ms.take i)) := lvr.mono fun _ _ z => NsR.mn.to z (TK.same k3)
        generalize rowsL F C W (fun k => clsOf D n (lv - 1) k) (ms.take i) = base0 at lvr3
        have sc0 : atI [V.ref fa, c, V.ref wa] 0 = some (.ref fa) := atI_nat (j := 0) rfl
        have sc1 : atI [V.ref fa, c, V.ref wa] 1 = some c := atI_nat (j := 1) rfl
        have sc2 : atI [V.ref fa, c, V.ref wa] 2 = some (.ref wa) := atI_nat (j := 2) rfl
        refine ⟨_, rfl, a, _, _, _, rfl, rfl, SqT.of ea3, sc2, wa, _, rfl, .inr (SqT.of (k13 _ _ ewa)), (W.length : Int), by rw [lw], by omega, by omega, ?_⟩
        rw [toNat_k]
        refine for_it walk_range (fun w σ' H' => ∃ (us : List V) (x7 x8 x9 x10 x11 x12 x13 : Option V), σ' = [some (.ref a), some (.ref va), some (.ref m), some (nV lv), some (.ref B), some (nV k), some (.ref C2), x7, x8, x9, x10, x11, x12, x13] ∧ Same H H' ∧ H' C2 = some (.lst (low.map nV)) ∧ H' B = some (.lst us) ∧ LV (NsR H') us (base0 ++ ((List.range w).flatMap fun w => lackW F C (wtAt W w) low k w).map (k :: ·)) ∧ us.length ≤ i * 30 + w * 6) ⟨us, _, _, _, _, _, _, _, rfl, k13, eC, eB3, by rw [List.range_zero, List.flatMap_nil, List.map_nil, List.append_nil]; exact lvr3, lus⟩ (fun _ _ _ _ _ => trivial) ?_ ?_
        · rintro w x σ' H4 H5 hw ⟨us, x7, x8, x9, x10, x11, x12, x13, rfl, k4, eC4, eB4, lv4, lus4⟩ ⟨rfl, hx⟩
          have hx : x = nV w := by rw [hx]; exact int0 w
          subst hx
          obtain ⟨wu, ewu, hwt⟩ := lW.get0 (i := w) ([], []) hw
          have wo := osc.wk _ (getD_mem (xs := W) (d := ([], [])) hw)
          rw [List.range_succ, List.flatMap_append, List.flatMap_cons, List.flatMap_nil, List.append_nil, List.map_append, ← List.append_assoc]
          generalize base0 ++ ((List.range w).flatMap fun w => lackW F C (wtAt W w) low k w).map (k :: ·) = base1 at lv4
          have ewt : wtAt W w = W.getD w ([], []) := rfl
          rw [ewt]
          generalize W.getD w ([], []) = wt at hwt wo
          obtain ⟨b, gv, dv, rfl, eb, ⟨ga, rfl, ega⟩, da, dus, rfl, eda, lD⟩ := hwt
          refine ⟨_, rfl, a, _, _, _, rfl, rfl, SqT.of (k4 _ _ ea), sc2, _, rfl, wa, _, _, _, rfl, rfl, SqT.of (k4 _ _ ewa), atI_nat ewu, b, _, rfl, SqT.of (k4 _ _ eb), rfl, _, _, rfl, _, _, rfl, rfl, ?_⟩
          refine ⟨_, rfl, C2, rfl, ⟨_, SqL.of eC4⟩, fun D2 nD2 => ?_⟩
          have nD2H : H D2 = none := none_same k4 nD2
          have gk := nat_at (xs := wt.1) (i := k) (by rw [wo.gl]; exact hk)
          have hg := wo.gb k hk
          have elw : lackW F C wt low k w = ((wt.2.getD (wt.1.getD k 0) []).filter fun p => decide (waysL C (insL F wt.1 low (wt.1.getD k 0)) p.1 < p.2)).map fun p => [w, p.1] := rfl
          generalize wt.1.getD k 0 = g at gk hg elw
          have nBC : B ≠ C2 := ne_of_none eB nC
          refine lc_it (walk_list (K := K) (a := C2) (xs := low.map nV)) (fun i H' => ∃ us, H' D2 = some (.lst us) ∧ LV (NsR H) us (insL F wt.1 (low.take i) g) ∧ Same H5 H') ⟨[], upd_same, LV.nil, same_upd (Same.refl H5) nD2⟩ ?_ ?_ ?_
          · rintro i H' _ ⟨_, _, _, k6⟩
            exact SqL.of (k6 _ _ eC4)
          · rintro j x H7 H8 hj ⟨us2, eD2, lv7, k6⟩ ⟨rfl, hx⟩
            rw [List.length_map] at hj
            rw [nat_at hj] at hx
            have hx := Option.some.inj hx
            subst hx
            have hk2 : low.getD j 0 < n := hlow _ (getD_mem hj)
            obtain ⟨fx, efx, hfx⟩ := lF.get0 (i := low.getD j 0) [] (by rw [osc.fl]; exact hk2)
            have lu := lv7.1
            have li := insL_len F wt.1 (low.take j) g
            rw [List.length_take] at li
            have k46 := k4.trans k6
            refine ⟨rfl, ?_⟩
            refine ⟨_, rfl, _, rfl, ga, _, _, _, rfl, rfl, SqT.of (k46 _ _ ega), atI_nat (nat_at (by rw [wo.gl]; exact hk2)), _, rfl, _, rfl, ga, _, _, _, rfl, rfl, SqT.of (k46 _ _ ega), atI_nat gk, rfl, ?_⟩
            by_cases hg2 : wt.1.getD (low.getD j 0) 0 = g
            · refine ⟨true, bTr (congrArg nV hg2), ?_⟩
              refine ⟨_, rfl, a, _, _, _, rfl, rfl, SqT.of (k46 _ _ ea), sc0, _, rfl, fa, _, _, _, rfl, rfl, SqT.of (k46 _ _ efa), atI_nat efx, ?_⟩
              refine ⟨us2, eD2, szN (by omega), us2 ++ [fx], upd_same, ?_, same_mut k6 nD2⟩
              rw [take_oneD 0 hj, insL_snoc, if_pos hg2]
              exact lv7.snoc hfx
            · refine ⟨false, bFa (fun z => hg2 (nV_inj z)), us2, eD2, ?_, k6⟩
              rw [take_oneD 0 hj, insL_snoc, if_neg hg2]
              exact lv7
          · rintro H7 ⟨us2, eD2, lv7, k6⟩
            rw [List.length_map, List.take_length] at lv7
            have k7 := k4.trans k6
            have eB7 := k6 _ _ eB4
            have eC7 := k6 _ _ eC4
            have nBD : B ≠ D2 := ne_of_none eB4 nD2
            obtain ⟨rv, erv, ra, rus, rfl, era, lR⟩ := lD.get0 [] hg
            have ro := wo.rl _ (getD_mem (d := []) hg)
            generalize wt.2.getD g [] = row at lR ro elw
            have lr := lR.1
            have lvb : LV (NsR H7) us base1 := lv4.mono fun _ _ z => NsR.mn.to z (TK.same k6)
            refine ⟨_, rfl, _, rfl, _, rfl, ga, _, _, _, rfl, rfl, SqT.of (k7 _ _ ega), atI_nat gk, da, _, _, _, rfl, rfl, SqT.of (k7 _ _ eda), atI_nat erv, ra, rfl, ⟨_, SqT.of (k7 _ _ era)⟩, ?_⟩
            refine for_it (walk_tup (K := K) (a := ra) (xs := rus)) (fun j σ' H' => ∃ (us : List V) (x11 x12 x13 : Option V), σ' = [some (.ref a), some (.ref va), some (.ref m), some (nV lv), some (.ref B), some (nV k), some (.ref C2), some (nV w), some (.ref ga), some (.ref da), some (.ref D2), x11, x12, x13] ∧ Same H H' ∧ Kp B H7 H' ∧ H' B = some (.lst us) ∧ LV (NsR H') us (base1 ++ ((row.take j).filter fun p => decide (waysL C (insL F wt.1 low g) p.1 < p.2)).map fun p => [k, w, p.1]) ∧ us.length ≤ i * 30 + w * 6 + j) ⟨us, _, _, _, rfl, k7, Kp.refl _ _, eB7, by rw [List.take_zero, List.filter_nil, List.map_nil, List.append_nil]; exact lvb, lus4⟩ ?_ ?_ ?_
            · rintro j σ' H' _ ⟨_, _, _, _, _, k8, _⟩
              exact SqT.of (k8 _ _ era)
            · rintro j x σ' H8 H9 hj ⟨us, x11, x12, x13, rfl, k8, kp8, eB8, lv8, lus8⟩ ⟨rfl, hx⟩
              obtain ⟨pr, epr, pa, _, _, rfl, epa, rfl, rfl⟩ := lR.at hx
              have ps := ro.2 pr (List.mem_of_getElem? epr)
              have lF2 := insL_len F wt.1 low g
              have r6 := ro.1
              refine ⟨pa, _, rfl, SqT.of (k8 _ _ epa), rfl, _, _, rfl, _, _, rfl, rfl, ?_⟩
              refine ⟨_, rfl, a, _, _, _, rfl, rfl, SqT.of (k8 _ _ ea), sc1, _, rfl, _, rfl, c, D2, us2, C, _, pr.1, rfl, (TupR.mn NsR.mn).to hC (TK.same k8), kp8 _ _ nBD.symm eD2, lv7.mono fun _ _ z => NsR.mn.to z (TK.same k8), ps, insL_ok osc hlow ps, by omega, fun H10 k10 => ?_⟩
              have eB10 := k10 _ _ eB8
              have lv10 := lv8.mono fun _ _ z => NsR.mn.to z (TK.same k10)
              have k810 := k8.trans k10
              have kp10 := kp8.trans (Kp.of_same k10)
              rw [take_one epr, List.filter_append]
              by_cases e : waysL C (insL F wt.1 low g) pr.1 < pr.2
              · refine ⟨_, rfl, _, _, rfl, rfl, true, bTr (by omega), ?_⟩
                refine ⟨.ref B, rfl, .inl ⟨rfl, _, .inl (.inl eB10)⟩, _, rfl, _, rfl, _, rfl, by show 3 ≤ sizeLine; decide, fun p np => ?_⟩
                have nBp : B ≠ p := ne_of_none eB10 np
                have eBp : upd H10 p (.tup [nV k, nV w, nV pr.1]) B = some (.lst us) := by rw [upd_ne nBp]; exact eB10
                refine ⟨B, us, _, rfl, rfl, eBp, szN (by omega), ?_⟩
                refine ⟨us ++ [.ref p], _, _, _, rfl, same_mut (same_upd k810 np) nB, (kp10.new np).upd, upd_same, ?_, by rw [List.length_append]; show us.length + 1 ≤ _; omega⟩
                rw [List.filter_cons_of_pos (by rw [decide_eq_true e]), List.filter_nil, List.map_append, ← List.append_assoc]
                exact ((lv10.mono fun _ _ z => NsR.mn.to z (TK.new (TK.refl _) np)).snoc (⟨p, rfl, upd_same⟩ : NsR (upd H10 p (.tup [nV k, nV w, nV pr.1])) (.ref p) [k, w, pr.1])).mono fun _ _ z => NsR.mn.to z (TK.mut (TK.refl _) eBp)
              · refine ⟨_, rfl, _, _, rfl, rfl, false, bFa (by omega), us, _, _, _, rfl, k810, kp10, eB10, ?_, by omega⟩
                rw [List.filter_cons_of_neg (by rw [decide_eq_false e]; decide), List.filter_nil, List.append_nil]
                exact lv10
            · rintro σ' H8 ⟨us, x11, x12, x13, rfl, k8, kp8, eB8, lv8, lus8⟩
              rw [List.take_of_length_le (show row.length ≤ rus.length by omega)] at lv8
              have r6 := ro.1
              refine ⟨us, _, _, _, _, _, _, _, rfl, k8, kp8 _ _ nBC.symm eC7, eB8, ?_, by rw [Nat.add_mul]; omega⟩
              rw [elw, List.map_map]
              exact lv8
        · rintro σ' H4 ⟨us, x7, x8, x9, x10, x11, x12, x13, rfl, k4, eC4, eB4, lv4, lus4⟩
          refine ⟨us, _, _, _, _, _, _, _, _, _, rfl, k4, eB4, lv4, ?_⟩
          rw [Nat.add_mul]
          have : W.length * 6 ≤ 30 := by omega
          omega
    · rintro σ' H1 ⟨us, x5, x6, x7, x8, x9, x10, x11, x12, x13, rfl, k1, eB, lvr, lus⟩
      rw [List.length_map, List.take_length] at lvr
      exact ⟨_, rfl, q _ _ us k1 nB eB lvr⟩
end
end Vf

set_option Elab.async false
set_option linter.all false
set_option maxRecDepth 100000
set_option maxHeartbeats 4000000
namespace Vf
open PySem PySem.Spec PyProof.Rows L2 TL
/-! ### the published classes of an honest plan -/
theorem clsOf_cl {n L lv k : Nat} {D : List (List PyData)} {V : Nat → Nat → Nat} (h : Lvs n L (eqs D) V) (hl : lv < L) (hk : k < n) : clsOf D n lv k = cl V n lv k := by
  unfold clsOf cl
  exact List.filter_congr fun o ho => h.he lv hl o k (List.mem_range.mp ho) hk
theorem cl_asc (V : Nat → Nat → Nat) (n lv k : Nat) : (cl V n lv k).Pairwise (· < ·) := by
  unfold cl
  exact List.pairwise_lt_range.filter _
theorem head_le {l : List Nat} {i : Nat} (asc : l.Pairwise (· < ·)) (hi : i ∈ l) : l.headD 0 ∈ l ∧ l.headD 0 ≤ i := by
  cases l with
  | nil => cases hi
  | cons h r =>
    refine ⟨List.mem_cons_self, ?_⟩
    rcases List.mem_cons.mp hi with e | e
    · rw [e]; exact Nat.le_refl _
    · exact Nat.le_of_lt ((List.pairwise_cons.mp asc).1 i e)
section
variable {n L : Nat} {D : List (List PyData)} {V : Nat → Nat → Nat} {un : List Nat → Bool} {pl : List Nat}
theorem cs_cl (h : Lvs n L (eqs D) V) (ok : PlanOk n L V un (pl.getD · 0)) {k : Nat} (hk : k < n) : csAt D n pl k = cl V n (pl.getD k 0) k := clsOf_cl h (ok.lt k hk) hk
theorem cs_same (h : Lvs n L (eqs D) V) (ok : PlanOk n L V un (pl.getD · 0)) {i j : Nat} (hi : i < n) (hj : j ∈ csAt D n pl i) : csAt D n pl j = csAt D n pl i := by
  rw [cs_cl h ok hi, cl_mem] at hj
  obtain ⟨jn, e⟩ := hj
  have ep : pl.getD j 0 = pl.getD i 0 := ok.hon i j hi jn e
  rw [cs_cl h ok hi, cs_cl h ok jn, ep]
  unfold cl
  rw [e]
theorem cs_self (h : Lvs n L (eqs D) V) (ok : PlanOk n L V un (pl.getD · 0)) {k : Nat} (hk : k < n) : k ∈ csAt D n pl k := by
  rw [cs_cl h ok hk, cl_mem]
  exact ⟨hk, rfl⟩
theorem one_cs (h : Lvs n L (eqs D) V) (ok : PlanOk n L V un (pl.getD · 0)) {k : Nat} (hk : k < n) : oneL D n pl k = csAt D n pl k := by
  unfold oneL csAt clsOf
  refine List.filter_congr fun m hm => ?_
  have hm := List.mem_range.mp hm
  have he := h.he _ (ok.lt k hk) m k hm hk
  cases e : eqs D (pl.getD k 0) m k with
  | false => rw [Bool.and_false]
  | true =>
    rw [e] at he
    have := of_decide_eq_true he.symm
    rw [decide_eq_true (ok.hon k m hk hm this)]; rfl
theorem seen_iff (h : Lvs n L (eqs D) V) (ok : PlanOk n L V un (pl.getD · 0)) {i : Nat} (hi : i < n) : i ∈ (fndL (csAt D n pl) i).flatten ↔ hdAt (csAt D n pl) i = false := by
  rw [List.mem_flatten]
  constructor
  · rintro ⟨c, hc, hic⟩
    obtain ⟨j, hj, rfl⟩ := List.mem_map.mp hc
    have ⟨j1, j2⟩ := List.mem_filter.mp hj
    have j1 := List.mem_range.mp j1
    have e := cs_same h ok (by omega) hic
    unfold hdAt at j2 ⊢
    rw [e]
    have := of_decide_eq_true j2
    rw [this]
    exact decide_eq_false (by omega)
  · intro hh
    unfold hdAt at hh
    have hh := of_decide_eq_false hh
    have self := cs_self h ok hi
    have asc : (csAt D n pl i).Pairwise (· < ·) := by rw [cs_cl h ok hi]; exact cl_asc V n _ i
    have ⟨m, le⟩ := head_le asc self
    have e := cs_same h ok hi m
    refine ⟨csAt D n pl i, ?_, self⟩
    refine List.mem_map.mpr ⟨(csAt D n pl i).headD 0, List.mem_filter.mpr ⟨List.mem_range.mpr (by omega), ?_⟩, e⟩
    unfold hdAt
    rw [e]
    exact decide_eq_true rfl
end
theorem pb_ok {n L : Nat} {F C : List (List Nat)} {W : List Wt} {D : List (List PyData)} {V : Nat → Nat → Nat} {pl : List Nat} (osc : ScOk n F C W) (h : Lvs n L (eqs D) V) (ok : PlanOk n L V (unsB F C W) (pl.getD · 0))
    (hbad : ∀ k, k < n → 0 < pl.getD k 0 → ∃ a, a < n ∧ V (pl.getD k 0) a = V (pl.getD k 0) k ∧ unsB F C W (cl V n (pl.getD k 0 - 1) a) = true) :
    ∀ x ∈ pubL pl n (csAt D n pl), PbOk n L F C W D x := fun x hx => by
  obtain ⟨k, hk, rfl⟩ := List.mem_map.mp hx
  have hk := List.mem_range.mp (List.mem_filter.mp hk).1
  have hl := ok.lt k hk
  have hl : pl.getD k 0 < L := hl
  have ecs := cs_cl h ok hk
  have hb := hbad k hk
  rw [ecs]
  generalize pl.getD k 0 = lv at hl hb ecs
  have hms : ∀ j ∈ cl V n lv k, j < n := fun j hj => (cl_mem.mp hj).1
  have up : 0 < lv → ∀ a b, a < n → b < n → V (lv - 1) a = V (lv - 1) b → V lv a = V lv b := fun l0 a b ha hb e => by
    have := h.up (lv - 1) (by omega) a b ha hb e
    rw [Nat.sub_add_cancel l0] at this
    exact this
  have hlow : 0 < lv → ∀ k' ∈ cl V n lv k, ∀ j, j ∈ clsOf D n (lv - 1) k' ↔ j ∈ cl V n lv k ∧ V (lv - 1) j = V (lv - 1) k' := fun l0 k' hk' j => by
    have ⟨kn, ke⟩ := cl_mem.mp hk'
    rw [clsOf_cl h (by omega) kn, cl_mem, cl_mem]
    constructor
    · rintro ⟨a, b⟩
      exact ⟨⟨a, by rw [up l0 j k' a kn b, ke]⟩, b⟩
    · rintro ⟨⟨a, _⟩, c⟩
      exact ⟨a, c⟩
  have iff : 0 < lv → ∀ x, x ∈ reasL F C W (cls (eqs D (lv - 1)) (cl V n lv k)) ↔ x ∈ rowsL F C W (fun k => clsOf D n (lv - 1) k) (cl V n lv k) := fun l0 => reas_rows (h.he (lv - 1) (by omega)) hms (hlow l0)
  have rn : 0 < lv → rowsL F C W (fun k => clsOf D n (lv - 1) k) (cl V n lv k) ≠ [] := fun l0 z => by
    obtain ⟨a, an, ae, bad⟩ := hb l0
    obtain ⟨m, hm, x, hx⟩ := reason_of osc (fun j hj => (cl_mem.mp hj).1) bad
    have ⟨mn, me⟩ := cl_mem.mp hm
    have hmm : m ∈ cl V n lv k := cl_mem.mpr ⟨mn, by rw [up l0 m a mn an me, ae]⟩
    have : m :: x ∈ rowsL F C W (fun k => clsOf D n (lv - 1) k) (cl V n lv k) := by
      refine List.mem_flatMap.mpr ⟨m, hmm, List.mem_map.mpr ⟨x, ?_, rfl⟩⟩
      rw [lacks_same (q := cl V n (lv - 1) a) fun j => by show j ∈ clsOf D n (lv - 1) m ↔ _; rw [clsOf_cl h (by omega) mn, cl_mem, cl_mem, me]]
      exact hx
    rw [z] at this
    cases this
  refine ⟨hl, hms, Nat.le_trans (by show (cl V n lv k).length ≤ n; unfold cl; exact Nat.le_trans (List.length_filter_le _ _) (by rw [List.length_range]; exact Nat.le_refl _)) osc.nn, fun l0 z => ?_, rn, fun l0 c hc hmin => ?_⟩
  · have l0 : 0 < lv := l0
    have z : reasL F C W (cls (eqs D (lv - 1)) (cl V n lv k)) = [] := z
    cases e : rowsL F C W (fun k => clsOf D n (lv - 1) k) (cl V n lv k) with
    | nil => exact rn l0 e
    | cons a b =>
      have := (iff l0 a).mpr (by rw [e]; exact List.mem_cons_self)
      rw [z] at this
      cases this
  · have l0 : 0 < lv := l0
    show c = (rowsL F C W (fun k => clsOf D n (lv - 1) k) (cl V n lv k)).headD []
    have asc := rows_asc (F := F) (C := C) (W := W) osc (low := fun k => clsOf D n (lv - 1) k) hms (cl_asc V n lv k)
    have i0 := iff l0
    cases e : rowsL F C W (fun k => clsOf D n (lv - 1) k) (cl V n lv k) with
    | nil => exact absurd e (rn l0)
    | cons a b =>
      rw [e] at asc i0
      exact least_head i0 asc hc hmin
theorem pub_snd (pl : List Nat) (n : Nat) (cs : Nat → List Nat) : (pubL pl n cs).map Prod.snd = fndL cs n := by
  unfold pubL fndL
  rw [List.map_map]; rfl
section
variable {P : Program} {w : World} {K : PySem.W.Frag} {mg : Str → Option Value} {base : Heap}
end
end Vf

set_option Elab.async false
set_option linter.all false
set_option maxRecDepth 100000
set_option maxHeartbeats 4000000
namespace Vf
open PySem PySem.Spec PyProof.Rows L2
/-! ### zip of two walks, each over a list, a tuple or a text -/
inductive Zs where
  | L (a : Addr)
  | T (a : Addr)
  | S (x : Str)
def Zs.v : Zs → V
  | .L a => .ref a
  | .T a => .ref a
  | .S x => .str x
def Zs.has (K : PySem.W.Frag) (H : Hp) (xs : List V) : Zs → Prop
  | .L a => SqL K H a xs
  | .T a => SqT K H a xs
  | .S x => xs = x.cps.toList.map fun c => V.str ⟨#[c]⟩
def Zs.it (h : Heap) (i : Addr) (k : Nat) : Zs → Prop
  | .L a => h.IsListIter i a k
  | .T a => h.IsTupleIter i a k
  | .S x => ∃ t, h.IsStrIter i (strIterType x) x t k
def Zs.off (c : Addr) : Zs → Prop
  | .L a => a ≠ c
  | .T a => a ≠ c
  | .S _ => True
def Zs.fp (i : Addr) : Zs → List Addr
  | .L a => [i, a]
  | .T a => [i, a]
  | .S _ => [i]
theorem Zs.mem_fp {p : Zs} {i c : Addr} (h1 : c ≠ i) (h2 : p.off c) : c ∉ p.fp i := by
  cases p with
  | L a => simp only [Zs.fp, List.mem_cons, List.not_mem_nil, or_false, not_or]; exact ⟨h1, fun e => h2 e.symm⟩
  | T a => simp only [Zs.fp, List.mem_cons, List.not_mem_nil, or_false, not_or]; exact ⟨h1, fun e => h2 e.symm⟩
  | S x => simp only [Zs.fp, List.mem_cons, List.not_mem_nil, or_false]; exact h1
theorem Zs.at {p : Zs} {h h' : Heap} {i : Addr} {k : Nat} (st : p.it h i k) (e : ∀ o, h.get? i = some o → h'.get? i = some o) : p.it h' i k := by
  cases p with
  | L a => exact Heap.IsListIter.at st e
  | T a => exact Heap.IsTupleIter.at st e
  | S x => obtain ⟨t, o, ho, r⟩ := st; exact ⟨t, o, e _ ho, r⟩
theorem Zs.obj {p : Zs} {h : Heap} {i : Addr} {k : Nat} (st : p.it h i k) : ∃ o, h.get? i = some o ∧ ∀ v, o.data ≠ .cell v := by
  cases p with
  | L a => obtain ⟨o, e, _, d⟩ := st; exact ⟨o, e, fun v q => by rw [d] at q; cases q⟩
  | T a => obtain ⟨o, e, _, d⟩ := st; exact ⟨o, e, fun v q => by rw [d] at q; cases q⟩
  | S x => obtain ⟨t, o, e, _, d⟩ := st; exact ⟨o, e, fun v q => by rw [d] at q; cases q⟩
theorem Zs.one {K : PySem.W.Frag} {X : Cx} {pins : List (Addr × Obj)} {σ : L2.St} {H : Hp} {s : Shared} {p : Zs} {xs ys : List V} (hK : X.K = K) (I : Inv X pins σ H s) (h1 : p.has K H xs) (h2 : p.has K H ys) : xs = ys := by
  subst hK
  cases p with
  | L a => exact I.list_inj h1 h2
  | T a => exact I.tuple_inj h1 h2
  | S x => exact h1.trans h2.symm
/-- what such an iterator draws where the heap stands -/
theorem Zs.draws {X : Cx} {pins : List (Addr × Obj)} {σ : L2.St} {H : Hp} {s : Shared} {p : Zs} {xs : List V} {i : Addr} {k : Nat} (hc : X.calm = true) (I : Inv X pins σ H s) (h : p.has X.K H xs) (st : p.it s.heap i k) (ho : p.off i) :
    ∃ (n : Nat) (P : Nat → Value → Prop) (St : Nat → Heap → Prop), Draws X.prog X.w X.A.in1 i (p.fp i) n P St ∧ St k s.heap ∧ n = xs.length ∧ (∀ u v, P k u → xs[k]? = some v → RelV v u) ∧ ∀ j h', St j h' → p.it h' i j := by
  have hh : X.A.in1.handled = none := I.ok.hd hc
  cases p with
  | L a =>
    obtain ⟨its, rv, q, _⟩ := I.list h
    refine ⟨_, _, _, Draws.list hh i a ho its.toArray, ⟨st, q.isList⟩, by have := rv.length; simp; omega, fun u v hu hv => ?_, fun j h' q => q.1⟩
    obtain ⟨u', hu', r⟩ := rv.get hv
    have e : its[k]? = some u := by simpa using hu
    rw [hu'] at e
    cases e
    exact r
  | T a =>
    obtain ⟨its, rv, q, _⟩ := I.tuple h
    refine ⟨_, _, _, Draws.tuple hh i a ho its.toArray, ⟨st, q⟩, by have := rv.length; simp; omega, fun u v hu hv => ?_, fun j h' q => q.1⟩
    obtain ⟨u', hu', r⟩ := rv.get hv
    have e : its[k]? = some u := by simpa using hu
    rw [hu'] at e
    cases e
    exact r
  | S x =>
    obtain ⟨t, st⟩ := st
    have h : xs = x.cps.toList.map fun c => V.str ⟨#[c]⟩ := h
    subst h
    refine ⟨_, _, _, Draws.text hh i x t, st, by simp, fun u v hu hv => ?_, fun j h' q => ⟨t, q⟩⟩
    obtain ⟨c, tk, hc, rfl⟩ := hu
    rw [List.getElem?_map] at hv
    have hc2 : x.cps.toList[k]? = some c := by simpa using hc
    rw [hc2] at hv
    cases hv
    exact ⟨_, rfl⟩
/-- the cells lie apart -/
structure Zap (z TI TO i1 i2 : Addr) (p q : Zs) : Prop where
  TIz : TI ≠ z
  TOz : TO ≠ z
  TITO : TI ≠ TO
  TIi1 : TI ≠ i1
  TIi2 : TI ≠ i2
  zi1 : z ≠ i1
  zi2 : z ≠ i2
  Ti1 : TO ≠ i1
  Ti2 : TO ≠ i2
  i12 : i1 ≠ i2
  p1 : p.off i1
  p2 : p.off i2
  pz : p.off z
  pT : p.off TO
  q1 : q.off i1
  q2 : q.off i2
  qz : q.off z
  qT : q.off TO
theorem Zap.sep {z TI TO i1 i2 : Addr} {p q : Zs} (D : Zap z TI TO i1 i2 p q) : ZipSep2 z TI TO i1 i2 (p.fp i1) (q.fp i2) where
  TIz := D.TIz
  TOz := D.TOz
  TITO := D.TITO
  TIi1 := D.TIi1
  mem1 := by cases p <;> exact List.mem_cons_self
  zf1 := Zs.mem_fp D.zi1 D.pz
  Tf1 := Zs.mem_fp D.Ti1 D.pT
  TIi2 := D.TIi2
  mem2 := by cases q <;> exact List.mem_cons_self
  zf2 := Zs.mem_fp D.zi2 D.qz
  Tf2 := Zs.mem_fp D.Ti2 D.qT
  sep1_2 := Zs.mem_fp D.i12 D.q1
  sep2_1 := Zs.mem_fp D.i12.symm D.p2
/-- the items of both as they stand at each turn, in new pairs -/
def ItzM (K : PySem.W.Frag) (p q : Zs) : It :=
  ⟨fun i H => ∃ (xs ys : List V), p.has K H xs ∧ q.has K H ys ∧ i < xs.length ∧ i < ys.length,
    fun i H v H' => ∃ T x y, v = .ref T ∧ H T = none ∧ H' = upd H T (.tup [x, y]) ∧ (∀ xs, p.has K H xs → xs[i]? = some x) ∧ ∀ ys, q.has K H ys → ys[i]? = some y,
    fun i H => ∃ xs ys : List V, p.has K H xs ∧ q.has K H ys ∧ i ≤ xs.length ∧ i ≤ ys.length ∧ (i = xs.length ∨ i = ys.length)⟩
theorem turn_zipM {P : Program} {w : World} {K : PySem.W.Frag} {elts : List Expr} {kk : Nat} {tpos : Pos} {z TI TO i1 i2 : Addr} {p' q' : Zs} (D : Zap z TI TO i1 i2 p' q') :
    Turn P w K (.Tuple elts kk tpos) (ItzM K p' q') [z, TI, TO, i1, i2] z (fun i h => IsZip h z TI TO .none ∧ IsTupOf2 h TI (.ref i1) (.ref i2) ∧ (∃ x y, IsTupOf2 h TO x y) ∧ p'.it h i1 i ∧ q'.it h i2 i) where
  mem := by simp
  obj := fun i h st c hc => by
    obtain ⟨hz, hTI, ⟨x, y, hTO⟩, h1, h2⟩ := st
    have e' : c = z ∨ c = TI ∨ c = TO ∨ c = i1 ∨ c = i2 := by simpa using hc
    rcases e' with q | q | q | q | q
    · rw [q]; exact ⟨_, hz, fun v q => nomatch q⟩
    · rw [q]; exact ⟨_, hTI, fun v q => nomatch q⟩
    · rw [q]; exact ⟨_, hTO, fun v q => nomatch q⟩
    · rw [q]; exact Zs.obj (p := p') h1
    · rw [q]; exact Zs.obj (p := q') h2
  keep := fun i h h' st k => by
    obtain ⟨hz, hTI, ⟨x, y, hTO⟩, h1, h2⟩ := st
    exact ⟨k z (by simp) _ hz, k TI (by simp) _ hTI, ⟨x, y, k TO (by simp) _ hTO⟩, Zs.at (p := p') h1 fun o q => k i1 (by simp) o q, Zs.at (p := q') h2 fun o q => k i2 (by simp) o q⟩
  item := by
    intro X hP hw hK hc i pins s σ H E I hf st hg
    subst hP hw hK
    obtain ⟨hz, hTI, ⟨x0, y0, hTO⟩, h1, h2⟩ := st
    obtain ⟨xs, ys, hqx, hqy, hi1, hi2⟩ := hg
    obtain ⟨n1, P1, St1, D1, s1, e1, r1, w1⟩ := Zs.draws hc I hqx h1 D.p1
    obtain ⟨n2, P2, St2, D2, s2, e2, r2, w2⟩ := Zs.draws hc I hqy h2 D.q2
    have hx : xs[i]? = some xs[i] := List.getElem?_eq_getElem hi1
    have hy : ys[i]? = some ys[i] := List.getElem?_eq_getElem hi2
    have hzl : z < s.heap.objs.size := Heap.lt_size hz
    have l1 : i1 < s.heap.objs.size := by obtain ⟨_, e⟩ := D1.live _ _ s1; exact Heap.lt_size e
    have l2 : i2 < s.heap.objs.size := by obtain ⟨_, e⟩ := D2.live _ _ s2; exact Heap.lt_size e
    refine wpAny_pyNext_zipD2_item D.sep D1 D2 hz hTI hTO s1 s2 (by omega) (by omega) fun u u2 h' tk y1 y2 z' TO' h1' h2' hT hsz hk => ?_
    refine ⟨_, rfl, wpAny_letOwnedTupleGo_zip (s := { s with heap := h', toks := tk }) z' fun h'' z'' sb => ?_⟩
    have hT2 : h''.get? s.heap.objs.size = some { cls := .type "tuple", data := .seq #[u, u2] } := (sb.2 _ (Nat.ne_of_gt hzl)).trans hT
    have ru := r1 _ _ y1 hx
    have ru2 := r2 _ _ y2 hy
    have new : ObjOk X.prog X.w (upd H s.heap.objs.size (.tup [xs[i], ys[i]])) h'' s.heap.objs.size (.tup [xs[i], ys[i]]) :=
      ⟨by show 2 ≤ sizeLine; decide, [u, u2], .cons ru (.cons ru2 .nil), ⟨_, hT2, rfl, _, rfl⟩⟩
    have I1 : Inv X pins σ (upd H s.heap.objs.size (.tup [xs[i], ys[i]])) { s with heap := h'', toks := tk } :=
      I.turnedNew (t' := tk) (ch := [z, TI, TO, i1, i2]) (fun c o hb q => (sb.2 c (fun z => hb (by simp [z]))).trans (hk c o (fun z => hb (by simp [z])) (fun z => hb (by simp [z])) (fun z => hb (by simp [z])) (fun z => hb (by simp [z])) q)) hf (Nat.le_refl _) new
    refine ⟨.ref s.heap.objs.size, _, I1, rfl, ⟨_, xs[i], ys[i], rfl, I.hok.fresh (Nat.le_refl _), rfl, fun l hl => by rw [Zs.one rfl I hl hqx]; exact hx, fun l hl => by rw [Zs.one rfl I hl hqy]; exact hy⟩, ⟨z'', ?_, ⟨u, u2, ?_⟩, ?_, ?_⟩, fun c hcm => ?_⟩
    · exact (sb.2 _ D.TIz).trans (hk _ _ D.TIz D.TITO D.TIi1 D.TIi2 hTI)
    · exact (sb.2 _ D.TOz).trans TO'
    · exact Zs.at (w1 _ _ h1') fun o q => (sb.2 _ D.zi1.symm).trans q
    · exact Zs.at (w2 _ _ h2') fun o q => (sb.2 _ D.zi2.symm).trans q
    · have hlt : c < s.heap.objs.size := by
        have e' : c = z ∨ c = TI ∨ c = TO ∨ c = i1 ∨ c = i2 := by simpa using hcm
        rcases e' with q | q | q | q | q
        · rw [q]; exact hzl
        · rw [q]; exact Heap.lt_size hTI
        · rw [q]; exact Heap.lt_size hTO
        · rw [q]; exact l1
        · rw [q]; exact l2
      rw [upd_ne (Nat.ne_of_lt hlt)]
      exact (hf c hcm).1
  done := by
    intro X hP hw hK hc i pins s σ H E I hf st hg
    subst hP hw hK
    obtain ⟨hz, hTI, ⟨x0, y0, hTO⟩, h1, h2⟩ := st
    obtain ⟨xs, ys, hqx, hqy, hi1, hi2, hend⟩ := hg
    obtain ⟨n1, P1, St1, D1, s1, e1, r1, w1⟩ := Zs.draws hc I hqx h1 D.p1
    obtain ⟨n2, P2, St2, D2, s2, e2, r2, w2⟩ := Zs.draws hc I hqy h2 D.q2
    exact wpAny_pyNext_zipD2_end D.sep D1 D2 hz hTI hTO s1 s2 (by omega) (by omega) (by omega) fun h' tk hk => ⟨rfl, I.turnedL (t' := tk) (ch := [z, TI, TO, i1, i2]) (fun c o hb q =>
      hk c o (fun z => hb (by simp [z])) (fun z => hb (by simp [z])) (fun z => hb (by simp [z])) (fun z => hb (by simp [z])) q) hf⟩
  self := fun A i s Q E st h => wpAny_pyIter_zip st.1 h
/-- how such a walk begins -/
theorem Zs.begins {X : Cx} {pins : List (Addr × Obj)} {σ : L2.St} {H : Hp} {s : Shared} {p : Zs} {xs : List V} {u : Value} (I : Inv X pins σ H s) (h : p.has X.K H xs) (r : RelV p.v u) :
    ∃ (o : Obj) (B : Heap → Prop), Begins u o B ∧ B s.heap ∧ (∀ (h' : Heap) i, h'.get? i = some o → p.it h' i 0) ∧ ∀ c, s.heap.objs.size ≤ c → p.off c := by
  cases p with
  | L a =>
    cases r
    obtain ⟨its, rv, q, _⟩ := I.list h
    exact ⟨_, _, begins_list a its.toArray, q.isList, fun h' i e => ⟨_, e, rfl, rfl⟩, fun c hc e => by
      have l := q.lt
      have e : a = c := e
      rw [e] at l
      exact Nat.lt_irrefl _ (Nat.lt_of_lt_of_le l hc)⟩
  | T a =>
    cases r
    obtain ⟨its, rv, q, _⟩ := I.tuple h
    have l : a < s.heap.objs.size := by obtain ⟨_, e, _⟩ := id q; exact Heap.lt_size e
    exact ⟨_, _, begins_tuple a its.toArray, q, fun h' i e => ⟨_, e, rfl, rfl⟩, fun c hc e => by
      have e : a = c := e
      rw [e] at l
      exact Nat.lt_irrefl _ (Nat.lt_of_lt_of_le l hc)⟩
  | S x =>
    obtain ⟨t, rfl⟩ := r
    exact ⟨_, _, begins_text x t, trivial, fun h' i e => ⟨t, _, e, rfl, rfl⟩, fun c hc => trivial⟩
def iZipM (K : PySem.W.Frag) (ta : TA) : TI := fun σ H R => ta σ H fun vs H1 => ∃ (p q : Zs) (xs ys : List V), vs = [p.v, q.v] ∧ p.has K H1 xs ∧ q.has K H1 ys ∧ R (ItzM K p q) H1
theorem pi_zipM {X : Cx} {e e2 : Expr} {ta : TA} {p pos tpos : Pos} {elts : List Expr} {kk : Nat} (hg : Gl X "zip") (hm : X.mg "zip" = none) (ha : PA X [e, e2] ta)
    (hs : starEach [e, e2] X.env = (false, eval e X.env) :: starEach [e2] X.env := by rfl) (hpl : (backTo pos (starEach [e2] X.env)).any (·.1) = false := by rfl) :
    PI X (.Tuple elts kk tpos) (.Call (.Name "zip" p) [e, e2] [] pos) (iZipM X.K ta) := by
  refine ⟨fun pins s σ H R I h => ?_⟩
  refine Call_ (ld_blt I hg hm PyProof.Rows.boot_zip (PyProof.Rows.callWith_type1 (thn (ha.run pos pins s σ H _ I h) fun us s1 ⟨vs, H1, I1, r1, q1⟩ => ?_) hs hpl))
  obtain ⟨a, b, xs, ys, ex, hqx, hqy, q⟩ := q1
  subst ex
  cases r1 with
  | cons r rr =>
    cases rr with
    | cons r' rr =>
      cases rr
      obtain ⟨o1, B1, b1, g1, i1, f1⟩ := Zs.begins I1 hqx r
      obtain ⟨o2, B2, b2, g2, i2, f2⟩ := Zs.begins I1 hqy r'
      refine zip_begins2 b1 b2 g1 g2 fun h' hz hTI hTO h1 h2 hsz hk => wpAny_pyIter_zip hz ?_
      have I2 : Inv X pins σ H1 { s1 with heap := h' } := I1.kept (t' := s1.toks) hk
      refine ⟨s1.heap.objs.size + 4, [s1.heap.objs.size + 4, s1.heap.objs.size + 2, s1.heap.objs.size + 3, s1.heap.objs.size, s1.heap.objs.size + 1], _, _, H1, rfl, I2,
        turn_zipM (p' := a) (q' := b) ⟨(by intro e; have e2 : (_ : Nat) = _ := e; omega), (by intro e; have e2 : (_ : Nat) = _ := e; omega), (by intro e; have e2 : (_ : Nat) = _ := e; omega), (by intro e; have e2 : (_ : Nat) = _ := e; omega), (by intro e; have e2 : (_ : Nat) = _ := e; omega), (by intro e; have e2 : (_ : Nat) = _ := e; omega), (by intro e; have e2 : (_ : Nat) = _ := e; omega), (by intro e; have e2 : (_ : Nat) = _ := e; omega), (by intro e; have e2 : (_ : Nat) = _ := e; omega), (by intro e; have e2 : (_ : Nat) = _ := e; omega), f1 _ (by omega), f1 _ (by omega), f1 _ (by omega), f1 _ (by omega), f2 _ (by omega), f2 _ (by omega), f2 _ (by omega), f2 _ (by omega)⟩,
        ⟨hz, hTI, ⟨_, _, hTO⟩, i1 _ _ h1, i2 _ _ h2⟩, fun c hcm => ?_, q⟩
      have e' : c = s1.heap.objs.size + 4 ∨ c = s1.heap.objs.size + 2 ∨ c = s1.heap.objs.size + 3 ∨ c = s1.heap.objs.size ∨ c = s1.heap.objs.size + 1 := by simpa using hcm
      have hle : s1.heap.objs.size ≤ c := by
        rcases e' with z | z | z | z | z
        · rw [z]; exact Nat.le_add_right _ _
        · rw [z]; exact Nat.le_add_right _ _
        · rw [z]; exact Nat.le_add_right _ _
        · rw [z]; exact Nat.le_refl _
        · rw [z]; exact Nat.le_add_right _ _
      exact I1.fpOk hle (I1.hok.fresh hle)
theorem walk_zipM {K : PySem.W.Frag} {p q : Zs} {xs ys : List V} {n : Nat} (hn : n = min xs.length ys.length) : Walk (ItzM K p q) n (fun H => p.has K H xs ∧ q.has K H ys) (YPair (fun i => xs[i]?) (fun i => ys[i]?)) := by
  subst hn
  refine ⟨fun i _ hi h => ⟨xs, ys, h.1, h.2, by omega, by omega⟩, fun _ h => ⟨xs, ys, h.1, h.2, by omega, by omega, by omega⟩, fun i H v H' _ h y => ?_⟩
  obtain ⟨T, x, z, h1, h2, h3, h4, h5⟩ := y
  exact ⟨T, x, z, h1, h2, h3, h4 xs h.1, h5 ys h.2⟩
end Vf

set_option Elab.async false
set_option linter.all false
set_option maxRecDepth 100000
set_option maxHeartbeats 4000000
namespace Vf
open PySem PySem.Spec PyProof.Rows L2 TL
/-! ### judging: tuples of any ints -/
def rLenK (K : PySem.W.Frag) : List V → Hp → VK → Prop := fun xs H Q => ∃ p ys, xs = [V.ref p] ∧ (SqL K H p ys ∨ SqT K H p ys) ∧ Q (V.int (ys.length : Nat)) H
def IsR (H : Hp) (v : V) (xs : List Int) : Prop := ∃ a, v = .ref a ∧ H a = some (.tup (xs.map V.int))
theorem IsR.mn : Mn IsR := ⟨fun ⟨a, e, h⟩ k => ⟨a, e, k _ _ h⟩⟩
theorem dI_dp {K : PySem.W.Frag} {H : Hp} {v : V} {xs : List Int} (h : IsR H v xs) : Dp K H v (dI xs) := by
  obtain ⟨a, rfl, e⟩ := h
  exact .tup (SqT.of e) (dp_ints xs)
theorem ints_lay : ∀ xs : List Int, PyData.canLayAll0 (xs.map PyData.int) = true
  | [] => rfl
  | x :: xs => by
    simp only [List.map_cons, PyData.canLayAll0, PyData.canLay0, Bool.true_and]
    exact ints_lay xs
theorem dI_lay (xs : List Int) : (dI xs).canLay0 = true := by
  unfold dI; simp only [PyData.canLay0]; exact ints_lay xs
theorem dI_depth (xs : List Int) : (dI xs).depth = 1 := by
  unfold dI; simp only [PyData.depth]; rw [depth_ints]
theorem dI_shaped (xs : List Int) : SeqAt.shaped (dI xs) = true := Bool.and_eq_true_iff.mpr ⟨dI_lay xs, decide_eq_true (by rw [dI_depth]; decide)⟩
theorem dI_toI (c : List Nat) : dI (toI c) = dN c := by
  unfold dI dN toI
  rw [List.map_map]; rfl
theorem ints_eqv : ∀ xs ys : List Int, PyData.eqvAll (xs.map PyData.int) (ys.map PyData.int) = decide (xs = ys)
  | [], [] => rfl
  | [], _ :: _ => rfl
  | _ :: _, [] => rfl
  | x :: xs, y :: ys => by
    simp only [List.map_cons, PyData.eqvAll, PyData.eqv]
    rw [ints_eqv xs ys]
    by_cases h : x = y
    · subst h
      simp
    · simp [h]
theorem dI_eqv (xs ys : List Int) : PyData.eqv (dI xs) (dI ys) = decide (xs = ys) := by
  unfold dI; simp only [PyData.eqv]; exact ints_eqv xs ys
theorem dN_any (cs : List (List Nat)) (r : List Int) : ((cs.map dN).any fun z => PyData.eqv z (dI r)) = decide (r ∈ cs.map toI) := by
  rw [List.any_map]
  by_cases h : r ∈ cs.map toI
  · rw [decide_eq_true h]
    obtain ⟨c, hc, rfl⟩ := List.mem_map.mp h
    refine List.any_eq_true.mpr ⟨c, hc, ?_⟩
    show PyData.eqv (dN c) (dI (toI c)) = true
    rw [← dI_toI, dI_eqv]
    exact decide_eq_true rfl
  · rw [decide_eq_false h]
    refine List.any_eq_false.mpr fun c hc => ?_
    show ¬ PyData.eqv (dN c) (dI r) = true
    rw [← dI_toI, dI_eqv]
    exact fun z => h (List.mem_map.mpr ⟨c, hc, of_decide_eq_true z⟩)
theorem inV_int (x : Int) (ms : List Nat) : inV (.int x) (ms.map nV) = decide (∃ k ∈ ms, x = (k : Int)) := by
  by_cases h : ∃ k ∈ ms, x = (k : Int)
  · obtain ⟨k, hk, rfl⟩ := h
    have := inV_nats k ms
    rw [decide_eq_true hk] at this
    rw [decide_eq_true ⟨k, hk, rfl⟩]
    exact this
  · rw [decide_eq_false h]
    by_cases p : 0 ≤ x
    · obtain ⟨k, rfl⟩ := Int.eq_ofNat_of_zero_le p
      have := inV_nats k ms
      rw [decide_eq_false (fun z => h ⟨k, z, rfl⟩)] at this
      exact this
    · unfold inV
      rw [List.any_map]
      refine List.any_eq_false.mpr fun k hk => ?_
      show ¬ eqV (.int (k : Int)) (.int x) = true
      have : ¬ (k : Int) = x := by omega
      simp [eqV, this]
/-! what the judge answers -/
def rightB (F C : List (List Nat)) (W : List Wt) (D : List (List PyData)) (n : Nat) (x : Nat × List Nat) (r : List Int) : Bool := decide (r ∈ (rowsL F C W (fun k => clsOf D n (x.1 - 1) k) x.2).map toI)
def aboveL (pubs : List (Nat × List Nat)) : List (Nat × List Nat) := pubs.filter fun x => decide (0 < x.1)
def validB (n L : Nat) (is : List Int) : Bool := decide (is.length = n) && is.all fun i => decide (0 ≤ i) && decide (i < (L : Int))
def finB (F C : List (List Nat)) (W : List Wt) (D : List (List PyData)) (n : Nat) (ab : List (Nat × List Nat)) (paper : List (List Int)) : Bool :=
  decide (paper.length = ab.length) && (List.range ab.length).all fun i => rightB F C W D n (ab.getD i (0, [])) (paper.getD i [])
def honC (D : List (List PyData)) (n : Nat) (pl : List Nat) : Bool := (List.range n).all fun k => (csAt D n pl k).all fun o => decide (pl.getD o 0 = pl.getD k 0)
def toN (is : List Int) : List Nat := is.map Int.toNat
def judgeB (F C : List (List Nat)) (W : List Wt) (D : List (List PyData)) (n L : Nat) (is : List Int) (paper : List (List Int)) : Bool :=
  validB n L is && (honC D n (toN is) && ((pubL (toN is) n (csAt D n (toN is))).all (fun x => !unsB F C W x.2) && finB F C W D n (aboveL (pubL (toN is) n (csAt D n (toN is)))) paper))
theorem valid_nat {n L : Nat} {is : List Int} (h : validB n L is = true) : is = toI (toN is) ∧ (toN is).length = n ∧ ∀ x ∈ toN is, x < L := by
  unfold validB at h
  rw [Bool.and_eq_true] at h
  have h1 := of_decide_eq_true h.1
  have h2 : ∀ i ∈ is, 0 ≤ i ∧ i < (L : Int) := fun i hi => by
    have := List.all_eq_true.mp h.2 i hi
    rw [Bool.and_eq_true] at this
    exact ⟨of_decide_eq_true this.1, of_decide_eq_true this.2⟩
  refine ⟨?_, by unfold toN; rw [List.length_map]; exact h1, fun x hx => ?_⟩
  · unfold toI toN
    rw [List.map_map]
    refine (List.map_id is).symm.trans (List.map_congr_left fun i hi => ?_)
    have := (h2 i hi).1
    show i = ((i.toNat : Nat) : Int)
    omega
  · obtain ⟨i, hi, rfl⟩ := List.mem_map.mp hx
    have := h2 i hi
    omega
theorem slA_any {K : PySem.W.Frag} {a : Addr} {xs : List V} {lo hi : Option Int} {H : Hp} {Q : VK} (e : H a = some (.tup xs)) (q : ∀ b H', Same H H' → H' b = some (.tup (cutV xs lo hi)) → Q (.ref b) H') : rSlA K (.ref a) lo hi H Q := by
  refine ⟨a, xs, rfl, SqT.of e, fun ⟨h1, h2⟩ => q a H (Same.refl H) ?_, fun _ p np => q p _ (same_upd (Same.refl H) np) upd_same⟩
  rw [e]
  unfold cutV
  rw [h1, h2, List.drop_zero, Nat.sub_zero, List.take_length]
theorem cut_from1 (xs : List V) : cutV xs (some 1) none = xs.drop 1 := by
  unfold cutV
  rw [HT.sIx_none, show (some (1 : Int)) = some ((1 : Nat) : Int) from rfl, HT.sIx_nat]
  cases xs with
  | nil => rfl
  | cons x r =>
    rw [Nat.min_eq_left (by rw [List.length_cons]; omega)]
    show r.take (r.length + 1 - 1) = r
    rw [Nat.add_sub_cancel, List.take_length]
theorem slA_from {K : PySem.W.Frag} {a : Addr} {xs : List V} {lo : Option Int} {H : Hp} {Q : VK} {σ : L2.St} (e : H a = some (.tup xs)) (q : ∀ b H', Same H H' → H' b = some (.tup (cutV xs lo none)) → Q (.ref b) H') : tNoPart σ H (fun u H3 => rSlA K (.ref a) lo u H3 Q) :=
  slA_any e q
end Vf

set_option Elab.async false
set_option linter.all false
set_option maxRecDepth 100000
set_option maxHeartbeats 4000000
namespace Vf
open PySem PySem.Spec PyProof.Rows L2 TL
section
variable {P : Program} {w : World} {K : PySem.W.Frag} {mg : Str → Option Value} {base : Heap}
theorem right_iff {F C : List (List Nat)} {W : List Wt} {low : Nat → List Nat} {ms : List Nat} {r : List Int} : r ∈ (rowsL F C W low ms).map toI ↔ ∃ k ∈ ms, ∃ x ∈ lacksL F C W (low k) k, r = (k : Int) :: toI x := by
  constructor
  · intro h
    obtain ⟨c, hc, rfl⟩ := List.mem_map.mp h
    obtain ⟨k, hk, hc⟩ := List.mem_flatMap.mp hc
    obtain ⟨x, hx, rfl⟩ := List.mem_map.mp hc
    exact ⟨k, hk, x, hx, rfl⟩
  · rintro ⟨k, hk, x, hx, rfl⟩
    exact List.mem_map.mpr ⟨k :: x, List.mem_flatMap.mpr ⟨k, hk, List.mem_map.mpr ⟨x, hx, rfl⟩⟩, rfl⟩
theorem lack_two {F C : List (List Nat)} {W : List Wt} {p : List Nat} {k : Nat} {x : List Nat} (h : x ∈ lacksL F C W p k) : x.length = 2 := by
  obtain ⟨w, _, hx⟩ := List.mem_flatMap.mp h
  obtain ⟨pr, _, rfl⟩ := List.mem_map.mp hx
  rfl
def spRight : Sp := fun vs H Q _ => ∃ (sc v : V) (lv : Nat) (m r : Addr) (n L : Nat) (F C : List (List Nat)) (W : List Wt) (D : List (List PyData)) (ms : List Nat) (is : List Int), vs = [sc, v, nV lv, .ref m, .ref r] ∧ ScR H sc F C W ∧ ScOk n F C W ∧ VwR H v D ∧ VwOk n L D ∧ 1 ≤ lv ∧ lv ≤ L ∧ H m = some (.tup (ms.map nV)) ∧ (∀ k ∈ ms, k < n) ∧ ms.length ≤ 24 ∧ H r = some (.tup (is.map V.int)) ∧ is.length ≤ 100 ∧
  ∀ H', Same H H' → Q (.bl (rightB F C W D n (lv, ms) is)) H'
theorem ok_right (T : Txt K mg) : FnOk P w K mg base CX0 3 T.a_is_right T.d_is_right ["scene", "views", "level", "members", "reason"] spRight := by
  have G_lacks_of : FnOk P w K mg base CX0 2 T.a_lacks_of T.d_lacks_of ["scene", "part", "k"] spLacks := ok_lacks T
  have G_class_of : FnOk P w K mg base CX0 1 T.a_class_of T.d_class_of ["views", "level", "k"] spClassOf := ok_class_of T
  refine T.D_is_right.F.ok sc_is_right (fun vs H Q E h => ?_) (fun cdv A outer s H vs Q E hr h => ?_)
  · obtain ⟨sc, v, lv, m, r, n, L, F, C, W, D, ms, is, rfl, _⟩ := h
    rfl
  · obtain ⟨sc, v, lv, m, r, n, L, F, C, W, D, ms, is, rfl, hsc, osc, hv, o, lv1, lvL, em, hms, l24, er, lis, q⟩ := h
    refine ⟨_, (pss_cons (ps_if (PW.pt (pw_or (pt_cmpR op_ne (pe_callB call_len_seq (by rfl) T.n_len PySem.boot_len (pa_cons (pv 4) pa_nil)) pe_int (nomark _)) (pw_or1 (pt_cmpR op_notIn_seq (pe_ix ix_tup (pv 4) pe_int (fun _ _ => rfl)) (pv 3) (by rfl))))) (pss_one (ps_ret pe_bl)) pss_nil)
      (pss_one (ps_ret (pe_cmpR (op_inD (hu65 hr)) (pe_slice sl_tupA (pv 4) (po_some pe_int) po_none) (pe_call G_lacks_of (hr.mono (by decide)) (by rfl) T.D_lacks_of.G T.D_lacks_of.F.kp T.D_lacks_of.B .nil pass0 (pa_cons (pv 0) (pa_cons (pe_call G_class_of (hr.mono (by decide)) (by rfl) T.D_class_of.G T.D_class_of.F.kp T.D_class_of.B .nil pass0 (pa_cons (pv 1) (pa_cons (pe_op op_sub (pv 2) pe_int) (pa_cons (pe_ix ix_tup (pv 4) pe_int (fun _ _ => rfl)) pa_nil)))) (pa_cons (pe_ix ix_tup (pv 4) pe_int (fun _ _ => rfl)) pa_nil)))) (by rfl))))), ?_⟩
    have nn := osc.nn
    refine ⟨_, rfl, r, _, rfl, .inr (SqT.of er), rfl, ?_⟩
    have no : is.length ≠ 3 → rightB F C W D n (lv, ms) is = false := fun h => by
      unfold rightB
      refine decide_eq_false fun z => ?_
      obtain ⟨k, _, x, hx, rfl⟩ := right_iff.mp z
      refine h ?_
      have := lack_two hx
      show (toI x).length + 1 = 3
      unfold toI
      rw [List.length_map]; omega
    by_cases h3 : is.length = 3
    · refine ⟨false, by rw [List.length_map, h3]; exact congrArg (fun b => V.bl (!b)) (decide_eq_true (p := V.int ((3 : Nat) : Int) = V.int 3) rfl), ?_⟩
      obtain ⟨x, y, z, rfl⟩ : ∃ x y z, is = [x, y, z] := by
        match is, h3 with
        | [x, y, z], _ => exact ⟨x, y, z, rfl⟩
      refine ⟨_, rfl, r, _, _, _, rfl, rfl, SqT.of er, atI_nat (j := 0) (v := .int x) rfl, _, rfl, m, _, rfl, .inr (SqT.of em), rfl, flat_nats _, ?_⟩
      by_cases hx : ∃ k ∈ ms, x = (k : Int)
      · refine ⟨false, by rw [inV_int, decide_eq_true hx]; rfl, ?_⟩
        obtain ⟨k, hk, rfl⟩ := hx
        have hkn := hms k hk
        have el : V.int ((lv : Int) - 1) = nV (lv - 1) := congrArg V.int (by omega)
        refine ⟨_, rfl, _, rfl, slA_from er fun b H1 k1 eb => ?_⟩
        rw [cut_from1] at eb
        have er1 := k1 _ _ er
        have at0 : atI [V.int (k : Int), V.int y, V.int z] 0 = some (nV k) := atI_nat (j := 0) rfl
        refine ⟨_, rfl, _, rfl, _, rfl, _, _, rfl, rfl, _, rfl, r, _, _, _, rfl, rfl, SqT.of er1, at0, v, lv - 1, k, n, L, D, by rw [← el]; rfl, VwR.mn.to hv (TK.same k1), o, by omega, hkn, by omega, fun H2 c k2 hc => ?_⟩
        obtain ⟨ca, rfl, eca⟩ := hc
        have k12 := k1.trans k2
        have er2 := k2 _ _ er1
        refine ⟨_, rfl, r, _, _, _, rfl, rfl, SqT.of er2, at0, sc, ca, k, n, F, C, W, _, rfl, hsc.mn (TK.same k12), osc, eca, clsOf_lt, Nat.lt_of_le_of_lt (clsOf_len D n _ k) (by omega), hkn, fun H3 la us k3 nla ela lvl lul => ?_⟩
        have eb3 := k3 _ _ (k2 _ _ eb)
        refine ⟨dI [y, z], (lacksL F C W (clsOf D n (lv - 1) k) k).map dN, dI_dp ⟨b, rfl, eb3⟩, .lst (SqL.of ela) (dNs_dp lvl), dI_shaped _, dNs_shaped _, ?_⟩
        have q := q H3 (k12.trans k3)
        have e : rightB F C W D n (lv, ms) [(k : Int), y, z] = ((lacksL F C W (clsOf D n (lv - 1) k) k).map dN).any fun c => PyData.eqv c (dI [y, z]) := by
          rw [dN_any]
          unfold rightB
          refine decide_eq_decide.mpr ?_
          rw [right_iff]
          constructor
          · rintro ⟨k', _, x, hx, e⟩
            obtain ⟨e1, e2⟩ := List.cons.inj e
            have : k' = k := by omega
            subst this
            exact List.mem_map.mpr ⟨x, hx, e2.symm⟩
          · intro h
            obtain ⟨x, hx, e⟩ := List.mem_map.mp h
            exact ⟨k, hk, x, hx, by rw [e]⟩
        rw [e] at q
        exact q
      · refine ⟨true, by rw [inV_int, decide_eq_false hx]; rfl, ?_⟩
        have q := q H (Same.refl H)
        have e : rightB F C W D n (lv, ms) [x, y, z] = false := by
          unfold rightB
          refine decide_eq_false fun h => ?_
          obtain ⟨k, hk, c, _, e⟩ := right_iff.mp h
          exact hx ⟨k, hk, (List.cons.inj e).1⟩
        rw [e] at q
        exact q
    · refine ⟨true, by rw [List.length_map]; exact congrArg (fun b => V.bl (!b)) (decide_eq_false (p := V.int (is.length : Int) = V.int 3) fun z => h3 (by have := V.int.inj z; omega)), ?_⟩
      have q := q H (Same.refl H)
      rw [no h3] at q
      exact q
def honBL (D : List (List PyData)) (n : Nat) (pl : List Nat) (i : Nat) : List Bool := (List.range i).flatMap fun k => (csAt D n pl k).map fun o => decide (pl.getD o 0 = pl.getD k 0)
theorem honBL_all (D : List (List PyData)) (n : Nat) (pl : List Nat) : (honBL D n pl n).all id = honC D n pl := by
  unfold honBL honC
  rw [List.all_flatMap]
  congr 1
  funext k
  rw [List.all_map]; rfl
theorem honBL_len (D : List (List PyData)) (n : Nat) (pl : List Nat) : ∀ i, (honBL D n pl i).length ≤ i * n
  | 0 => Nat.zero_le _
  | i + 1 => by
    unfold honBL
    rw [List.range_succ, List.flatMap_append, List.length_append, List.flatMap_cons, List.flatMap_nil, List.append_nil, List.length_map, Nat.add_mul, Nat.one_mul]
    exact Nat.add_le_add (honBL_len D n pl i) (clsOf_len D n _ i)
def spIsHon : Sp := fun vs H Q _ => ∃ (v : V) (p : Addr) (n L : Nat) (D : List (List PyData)) (pl : List Nat), vs = [v, .ref p] ∧ VwR H v D ∧ VwOk n L D ∧ H p = some (.tup (pl.map nV)) ∧ pl.length = n ∧ (∀ x ∈ pl, x < L) ∧ n ≤ 24 ∧
  ∀ H', Same H H' → Q (.bl (honC D n pl)) H'
theorem ok_ishon (T : Txt K mg) : FnOk P w K mg base CX0 2 T.a_is_honest T.d_is_honest ["views", "plan"] spIsHon := by
  have G_class_of : FnOk P w K mg base CX0 1 T.a_class_of T.d_class_of ["views", "level", "k"] spClassOf := ok_class_of T
  refine T.D_is_honest.F.ok sc_is_honest (fun vs H Q E h => ?_) (fun cdv A outer s H vs Q E hr h => ?_)
  · obtain ⟨v, p, n, L, D, pl, rfl, _⟩ := h
    rfl
  · obtain ⟨v, p, n, L, D, pl, rfl, hv, o, ep, lpl, hpl, n24, q⟩ := h
    refine ⟨_, (pss_one (ps_ret (pe_callB (cr_all (by rfl)) (by rfl) T.n_all (by decide +kernel) (pa_cons (pe_lc2 (own := [("k", 2), ("other", 3)]) (vs1 := [3]) (g := gName 2) (g1 := gName 3) (tt := tYes) (tt1 := tYes) (wi1 := iTup K _) rfl sc_is_honest.nd (pi_range1 (by rfl) T.n_range (pa_cons (pe_callB call_len_seq (by rfl) T.n_len PySem.boot_len (pa_cons (pv 1) pa_nil)) pa_nil)) (blkOk_by (own := [("k", 2), ("other", 3)]) (N := ["views", "plan", "k", "other"]) (sc := (defScope s_is_honest)) (by decide +kernel)) (by decide) (fun _ _ _ _ _ => (pg_name (i := 2) sc_is_honest.nd rfl (.inl rfl))) (fun _ _ _ _ _ => pts_nil) (fun _ _ _ _ _ => (pi_tup (pe_call G_class_of (hr.mono (by decide)) (by rfl) T.D_class_of.G T.D_class_of.F.kp T.D_class_of.B .nil pass0 (pa_cons (pv 0) (pa_cons (pe_ix (r := rIxT K) ix_tup (pv 1) (pv 2) (fun _ _ => rfl)) (pa_cons (pv 2) pa_nil)))))) (fun _ _ _ _ _ => (pg_name (i := 3) sc_is_honest.nd rfl (.inl rfl))) (fun _ _ _ _ _ => pts_nil) (fun _ _ _ _ _ => (pe_cmpR op_eq (pe_ix (r := rIxT K) ix_tup (pv 1) (pv 3) (fun _ _ => rfl)) (pe_ix (r := rIxT K) ix_tup (pv 1) (pv 2) (fun _ _ => rfl)) (nomark _)))) pa_nil)))), ?_⟩
    refine ⟨_, rfl, p, _, rfl, .inr (SqT.of ep), (n : Int), by rw [List.length_map, lpl], by omega, by omega, ?_⟩
    rw [toNat_k]
    refine fun D2 nD2 => ?_
    refine lc2_out walk_range (fun i H' => H' D2 = some (.lst ((honBL D n pl i).map V.bl)) ∧ Same H H') ⟨upd_same, same_upd (Same.refl H) nD2⟩ (fun _ _ _ _ => trivial) ?_ ?_
    · rintro k x H1 H2 hk ⟨eD, k1⟩ ⟨rfl, hx⟩
      have hx : x = nV k := by rw [hx]; exact int0 k
      subst hx
      have gk := atI_nat (nat_at (xs := pl) (i := k) (by omega))
      have hl := hpl _ (getD_mem (xs := pl) (i := k) (d := 0) (by omega))
      have lb := honBL_len D n pl k
      have lbn : k * n ≤ 24 * 24 := Nat.mul_le_mul (by omega) n24
      have es : honBL D n pl (k + 1) = honBL D n pl k ++ (csAt D n pl k).map fun o => decide (pl.getD o 0 = pl.getD k 0) := by
        unfold honBL
        rw [List.range_succ, List.flatMap_append, List.flatMap_cons, List.flatMap_nil, List.append_nil]
      rw [es]
      refine ⟨rfl, ?_⟩
      refine ⟨_, rfl, _, rfl, _, rfl, p, _, _, _, rfl, rfl, SqT.of (k1 _ _ ep), gk, _, rfl, v, pl.getD k 0, k, n, L, D, rfl, VwR.mn.to hv (TK.same k1), o, hl, hk, by omega, fun H3 c k3 hc => ?_⟩
      obtain ⟨ca, rfl, eca⟩ := hc
      have k13 := k1.trans k3
      have eD3 := k3 _ _ eD
      have hcs : ∀ x ∈ csAt D n pl k, x < n := clsOf_lt
      have lcs : (csAt D n pl k).length ≤ n := clsOf_len D n _ k
      have eca : H3 ca = some (.tup ((csAt D n pl k).map nV)) := eca
      generalize csAt D n pl k = cs at eca hcs lcs
      refine ⟨ca, rfl, ⟨_, SqT.of eca⟩, ?_⟩
      refine lc2_in (walk_tup (K := K) (a := ca) (xs := cs.map nV)) (fun j H' => H' D2 = some (.lst ((honBL D n pl k ++ (cs.take j).map fun o => decide (pl.getD o 0 = pl.getD k 0)).map V.bl)) ∧ Same H H' ∧ TK H3 H') ⟨by rw [List.take_zero, List.map_nil, List.append_nil]; exact eD3, k13, TK.refl _⟩ ?_ ?_ ?_
      · rintro j H' _ ⟨_, _, tk⟩
        exact SqT.of (tk _ _ eca)
      · rintro j x H4 H5 hj ⟨eD4, k4, tk4⟩ ⟨rfl, hx⟩
        rw [List.length_map] at hj
        rw [nat_at hj] at hx
        have hx := Option.some.inj hx
        subst hx
        have hon := hcs _ (getD_mem (d := 0) hj)
        have et := take_oneD 0 hj
        have e1 : (honBL D n pl k ++ (cs.take (j + 1)).map fun o => decide (pl.getD o 0 = pl.getD k 0)) = (honBL D n pl k ++ (cs.take j).map fun o => decide (pl.getD o 0 = pl.getD k 0)) ++ [decide (pl.getD (cs.getD j 0) 0 = pl.getD k 0)] := by
          rw [et, List.map_append, ← List.append_assoc]; rfl
        rw [e1]
        generalize cs.getD j 0 = oo at hon
        refine ⟨rfl, ?_⟩
        refine ⟨_, rfl, _, rfl, p, _, _, _, rfl, rfl, SqT.of (k4 _ _ ep), atI_nat (nat_at (i := oo) (by omega)), _, rfl, _, rfl, p, _, _, _, rfl, rfl, SqT.of (k4 _ _ ep), gk, rfl, ?_⟩
        have lt : ((honBL D n pl k ++ (cs.take j).map fun o => decide (pl.getD o 0 = pl.getD k 0)).map V.bl).length < 100000 := by
          rw [List.length_map, List.length_append, List.length_map, List.length_take]; omega
        refine ⟨_, eD4, szN lt, ?_, same_mut k4 nD2, tk4.trans (TK.mut (TK.refl _) eD4)⟩
        rw [upd_same, List.map_append (l₂ := [_])]
        have e : decide (nV (pl.getD oo 0) = nV (pl.getD k 0)) = decide (pl.getD oo 0 = pl.getD k 0) := decide_eq_decide.mpr ⟨nV_inj, congrArg nV⟩
        rw [e]; rfl
      · rintro H4 ⟨eD4, k4, tk4⟩
        rw [List.length_map, List.take_length] at eD4
        exact ⟨eD4, k4⟩
    · rintro H1 ⟨eD, k1⟩
      refine ⟨D2, honBL D n pl n, rfl, .inl (.inl eD), ?_⟩
      rw [honBL_all]
      exact q H1 k1
end
end Vf

set_option Elab.async false
set_option linter.all false
set_option maxRecDepth 100000
set_option maxHeartbeats 4000000
namespace Vf
open PySem PySem.Spec PyProof.Rows L2 TL
def abovS (pubs : List (Nat × List Nat)) (lv : Nat) (ms : List Nat) : List (Nat × List Nat) := if 0 < lv then [(lv, ms)] else []
theorem above_snoc {pubs : List (Nat × List Nat)} {i lv : Nat} {ms : List Nat} (e : pubs[i]? = some (lv, ms)) : aboveL (pubs.take (i + 1)) = aboveL (pubs.take i) ++ if 0 < lv then [(lv, ms)] else [] := by
  unfold aboveL
  rw [take_one e, List.filter_append]
  refine congrArg _ ?_
  by_cases c : 0 < lv
  · rw [if_pos c, List.filter_cons_of_pos (by show decide (0 < lv) = true; exact decide_eq_true c)]; rfl
  · rw [if_neg c, List.filter_cons_of_neg (by show ¬ decide (0 < lv) = true; exact fun z => c (of_decide_eq_true z))]; rfl
theorem above_len (pubs : List (Nat × List Nat)) : (aboveL pubs).length ≤ pubs.length := List.length_filter_le _ _
section
variable {P : Program} {w : World} {K : PySem.W.Frag} {mg : Str → Option Value} {base : Heap}
def spJudge : Sp := fun vs H Q _ => ∃ (sc v pvv : V) (p : Addr) (n L : Nat) (F C : List (List Nat)) (W : List Wt) (D : List (List PyData)) (is : List Int) (paper : List (List Int)), vs = [sc, v, .ref p, pvv] ∧ ScR H sc F C W ∧ ScOk n F C W ∧ VwR H v D ∧ VwOk n L D ∧ 1 ≤ n ∧ L ≤ 100 ∧ (∀ lv k, lv < L → k < n → k ∈ clsOf D n lv k) ∧ H p = some (.tup (is.map V.int)) ∧ is.length ≤ 1000 ∧ TupR IsR H pvv paper ∧ paper.length ≤ 1000 ∧ (∀ r ∈ paper, r.length ≤ 100) ∧
  ∀ H', Same H H' → Q (.bl (judgeB F C W D n L is paper)) H'
theorem ok_judge (T : Txt K mg) : FnOk P w K mg base CX0 4 T.a_judge_plan T.d_judge_plan ["scene", "views", "plan", "paper"] spJudge := by
  have G_is_honest : FnOk P w K mg base CX0 2 T.a_is_honest T.d_is_honest ["views", "plan"] spIsHon := ok_ishon T
  have G_published : FnOk P w K mg base CX0 2 T.a_published T.d_published ["views", "plan"] spPub := ok_pub T
  have G_is_safe : FnOk P w K mg base CX0 2 T.a_is_safe T.d_is_safe ["scene", "members"] spSafe := ok_safe T
  have G_is_right : FnOk P w K mg base CX0 3 T.a_is_right T.d_is_right ["scene", "views", "level", "members", "reason"] spRight := ok_right T
  refine T.D_judge_plan.F.ok sc_judge_plan (fun vs H Q E h => ?_) (fun cdv A outer s H vs Q E hr h => ?_)
  · obtain ⟨sc, v, pvv, p, n, L, F, C, W, D, is, paper, rfl, _⟩ := h
    rfl
  · obtain ⟨sc, v, pvv, p, n, L, F, C, W, D, is, paper, rfl, hsc, osc, hv, o, n1, L100, hcl, ep, lis, hpp, lpp, lrr, q⟩ := h
    refine ⟨_, (pss_cons (ps_if (PW.pt (pw_or (pt_cmpR op_ne (pe_callB call_len_seq (by rfl) T.n_len PySem.boot_len (pa_cons (pv 2) pa_nil)) (pe_callB call_len_seq (by rfl) T.n_len PySem.boot_len (pa_cons (pv 1) pa_nil)) (nomark _)) (pw_or1 (pt_not (pt_val (pe_callB (cr_all (by rfl)) (by rfl) T.n_all (by decide +kernel) (pa_cons (pe_lc (own := [("level", 6)]) (g := gName 6) (tt := tYes) rfl sc_judge_plan.nd (pi_tup (pv 2)) (blkOk_by (own := [("level", 6)]) (N := ["scene", "views", "plan", "paper", "classes", "above", "level", "_", "members", "reason"]) (sc := (defScope s_judge_plan)) (by decide +kernel)) (fun _ _ _ _ _ => (pg_name (i := 6) sc_judge_plan.nd rfl (.inl rfl))) (fun _ _ _ _ _ => pts_nil) (fun _ _ _ _ _ => (pe_chain op_le op_lt pe_int (pv 6) (pe_callB (show CallR _ _ (rLenK K) from call_len_seq) (by rfl) T.n_len PySem.boot_len (pa_cons (pe_ix (r := rIxT K) ix_tup (pv 1) pe_int (fun _ _ => rfl)) pa_nil))))) pa_nil))))))) (pss_one (ps_ret pe_bl)) pss_nil)
      (pss_cons (ps_if (pt_not (pt_val (pe_call G_is_honest (hr.mono (by decide)) (by rfl) T.D_is_honest.G T.D_is_honest.F.kp T.D_is_honest.B .nil pass0 (pa_cons (pv 1) (pa_cons (pv 2) pa_nil))))) (pss_one (ps_ret pe_bl)) pss_nil)
      (pss_cons (ps_set (i := 4) sc_judge_plan.nd rfl (.inl rfl) (pe_call G_published (hr.mono (by decide)) (by rfl) T.D_published.G T.D_published.F.kp T.D_published.B .nil pass0 (pa_cons (pv 1) (pa_cons (pv 2) pa_nil))))
      (pss_cons (ps_if (pt_not (pt_val (pe_callB (cr_all (by rfl)) (by rfl) T.n_all (by decide +kernel) (pa_cons (pe_lc (own := [("_", 7), ("members", 8)]) (g := (gTup K 2 (gCons (gName 7) (gCons (gName 8) gNil)))) (tt := tYes) rfl sc_judge_plan.nd (pi_tup (pv 4)) (blkOk_by (own := [("_", 7), ("members", 8)]) (N := ["scene", "views", "plan", "paper", "classes", "above", "level", "_", "members", "reason"]) (sc := (defScope s_judge_plan)) (by decide +kernel)) (fun _ _ _ _ _ => (pg_tup (by rfl) (pgs_cons (pg_name (i := 7) sc_judge_plan.nd rfl (.inl rfl)) (pgs_cons (pg_name (i := 8) sc_judge_plan.nd rfl (.inl rfl)) pgs_nil)))) (fun _ _ _ _ _ => pts_nil) (fun _ _ _ _ _ => (pe_call G_is_safe (hr.mono (by decide)) (by rfl) T.D_is_safe.G T.D_is_safe.F.kp T.D_is_safe.B .nil pass0 (pa_cons (pv 0) (pa_cons (pv 8) pa_nil))))) pa_nil)))) (pss_one (ps_ret pe_bl)) pss_nil)
      (pss_cons (ps_setLc (i := 5) (own := [("level", 6), ("members", 8)]) (g := (gTup K 2 (gCons (gName 6) (gCons (gName 8) gNil)))) rfl sc_judge_plan.nd rfl rfl (sw_true rfl rfl rfl (by decide +kernel)) (pi_tup (pv 4)) (blkOk_by (own := [("level", 6), ("members", 8)]) (N := ["scene", "views", "plan", "paper", "classes", "above", "level", "_", "members", "reason"]) (sc := (defScope s_judge_plan)) (by decide +kernel)) (fun _ _ _ _ _ => (pg_tup (by rfl) (pgs_cons (pg_name (i := 6) sc_judge_plan.nd rfl (.inl rfl)) (pgs_cons (pg_name (i := 8) sc_judge_plan.nd rfl (.inl rfl)) pgs_nil)))) (fun _ _ _ _ _ => (pts_one (pt_cmpR op_gt (pv 6) pe_int (nomark _)))) (fun _ _ _ _ _ => (pe_tup (pa_cons (pv 6) (pa_cons (pv 8) pa_nil)))))
      (pss_one (ps_ret (pe_and (pe_cmpR op_eq (pe_callB call_len_seq (by rfl) T.n_len PySem.boot_len (pa_cons (pv 3) pa_nil)) (pe_callB call_len_seq (by rfl) T.n_len PySem.boot_len (pa_cons (pv 5) pa_nil)) (nomark _)) (pe_one (pe_callB (cr_all (by rfl)) (by rfl) T.n_all (by decide +kernel) (pa_cons (pe_lc (own := [("reason", 9), ("level", 6), ("members", 8)]) (g := (gTup K 2 (gCons (gTup K 2 (gCons (gName 6) (gCons (gName 8) gNil))) (gCons (gName 9) gNil)))) (tt := tYes) rfl sc_judge_plan.nd (pi_zipM (by rfl) T.n_zip (pa_cons (pv 5) (pa_cons (pv 3) pa_nil))) (blkOk_by (own := [("reason", 9), ("level", 6), ("members", 8)]) (N := ["scene", "views", "plan", "paper", "classes", "above", "level", "_", "members", "reason"]) (sc := (defScope s_judge_plan)) (by decide +kernel)) (fun _ _ _ _ _ => (pg_tup (by rfl) (pgs_cons (pg_tup (by rfl) (pgs_cons (pg_name (i := 6) sc_judge_plan.nd rfl (.inl rfl)) (pgs_cons (pg_name (i := 8) sc_judge_plan.nd rfl (.inl rfl)) pgs_nil))) (pgs_cons (pg_name (i := 9) sc_judge_plan.nd rfl (.inl rfl)) pgs_nil)))) (fun _ _ _ _ _ => pts_nil) (fun _ _ _ _ _ => (pe_call G_is_right (hr.mono (by decide)) (by rfl) T.D_is_right.G T.D_is_right.F.kp T.D_is_right.B .nil pass0 (pa_cons (pv 0) (pa_cons (pv 1) (pa_cons (pv 6) (pa_cons (pv 8) (pa_cons (pv 9) pa_nil)))))))) pa_nil))))))))))), ?_⟩
    have nn := osc.nn
    obtain ⟨va, vus, rfl, eva, lvu, hat⟩ := hv.get o
    obtain ⟨r0, r0s, er0, er02, lr0, _⟩ := hat 0 (by omega)
    obtain ⟨qa, qus, rfl, eqa, lq⟩ := id hpp
    have lqq := lq.1
    have bad : validB n L is = false → judgeB F C W D n L is paper = false := fun h => by unfold judgeB; rw [h]; rfl
    refine ⟨_, rfl, p, _, rfl, .inr (SqT.of ep), _, rfl, va, _, rfl, .inr (SqT.of eva), rfl, ?_⟩
    by_cases hlen : is.length = n
    · refine ⟨false, by rw [List.length_map, lvu, hlen]; exact congrArg (fun b => V.bl (!b)) (decide_eq_true (p := V.int (n : Int) = V.int (n : Int)) rfl), ?_⟩
      refine ⟨_, rfl, p, rfl, ⟨_, SqT.of ep⟩, fun D2 nD2 => ?_⟩
      refine lc_it (walk_tup (K := K) (a := p) (xs := is.map V.int)) (fun i H' => H' D2 = some (.lst (((is.take i).map fun x => decide (0 ≤ x) && decide (x < (L : Int))).map V.bl)) ∧ Same H H') ⟨upd_same, same_upd (Same.refl H) nD2⟩ ?_ ?_ ?_
      · rintro i H' _ ⟨_, k⟩
        exact SqT.of (k _ _ ep)
      · rintro i x H1 H2 hi ⟨eD, k1⟩ ⟨rfl, hx⟩
        rw [List.getElem?_map] at hx
        obtain ⟨y, hy, e⟩ := Option.map_eq_some_iff.mp hx
        subst e
        have lt : ((((is.take i).map fun x => decide (0 ≤ x) && decide (x < (L : Int))).map V.bl)).length < 100000 := by
          rw [List.length_map, List.length_map, List.length_take]; omega
        have es : (is.take (i + 1)).map (fun x => decide (0 ≤ x) && decide (x < (L : Int))) = (is.take i).map (fun x => decide (0 ≤ x) && decide (x < (L : Int))) ++ [decide (0 ≤ y) && decide (y < (L : Int))] := by
          rw [take_one hy, List.map_append]; rfl
        rw [es, List.map_append]
        refine ⟨rfl, ?_⟩
        refine ⟨_, rfl, _, _, rfl, rfl, decide (0 ≤ y), rfl, ?_⟩
        by_cases c : 0 ≤ y
        · rw [decide_eq_true c, if_pos rfl]
          refine ⟨_, rfl, va, _, _, _, rfl, rfl, SqT.of (k1 _ _ eva), atI_nat (j := 0) er0, r0, _, rfl, .inr (SqT.of (k1 _ _ er02)), _, _, rfl, rfl, ?_⟩
          rw [lr0]
          exact ⟨_, eD, szN lt, by rw [upd_same]; rfl, same_mut k1 nD2⟩
        · rw [decide_eq_false c, if_neg Bool.false_ne_true]
          exact ⟨_, eD, szN lt, by rw [upd_same]; rfl, same_mut k1 nD2⟩
      · rintro H1 ⟨eD, k1⟩
        rw [List.length_map, List.take_length] at eD
        refine ⟨D2, _, rfl, .inl (.inl eD), ?_⟩
        have ev : ((is.map fun x => decide (0 ≤ x) && decide (x < (L : Int))).all id) = validB n L is := by
          unfold validB
          rw [decide_eq_true hlen, Bool.true_and, List.all_map]; rfl
        rw [ev]
        refine ⟨validB n L is, rfl, ?_⟩
        cases hval : validB n L is with
        | false =>
          have q := q H1 k1
          rw [bad hval] at q
          exact q
        | true =>
          obtain ⟨e1, e2, e3⟩ := valid_nat hval
          have ej : judgeB F C W D n L is paper = (honC D n (toN is) && ((pubL (toN is) n (csAt D n (toN is))).all (fun x => !unsB F C W x.2) && finB F C W D n (aboveL (pubL (toN is) n (csAt D n (toN is)))) paper)) := by
            unfold judgeB; rw [hval, Bool.true_and]
          rw [ej] at q
          have ep1 := k1 _ _ ep
          rw [e1, toI_map] at ep1
          generalize toN is = pl at e1 e2 e3 q ep1
          have hcs : ∀ k, k < n → csAt D n pl k ≠ [] := fun k hk z => by
            have : k ∈ csAt D n pl k := hcl _ k (e3 _ (getD_mem (by omega))) hk
            rw [z] at this; cases this
          refine ⟨_, rfl, _, rfl, .ref va, p, n, L, D, pl, rfl, VwR.mn.to hv (TK.same k1), o, ep1, e2, e3, nn, fun H2 k2 => ?_⟩
          refine ⟨honC D n pl, rfl, ?_⟩
          have k12 := k1.trans k2
          cases hh : honC D n pl with
          | false =>
            have q := q H2 k12
            rw [hh] at q
            exact q
          | true =>
            rw [hh, Bool.true_and] at q
            refine ⟨_, rfl, _, rfl, .ref va, .ref p, n, L, D, pl, rfl, VwR.mn.to hv (TK.same k12), o, ⟨p, rfl, k2 _ _ ep1⟩, e2, e3, nn, hcs, fun H3 c3 k3 hc3 => ?_⟩
            obtain ⟨ta, tus, rfl, eta, lt⟩ := hc3
            have k13 := k12.trans k3
            have hpub : ∀ x ∈ pubL pl n (csAt D n pl), (∀ k ∈ x.2, k < n) ∧ x.2.length ≤ n ∧ x.1 < L := fun x hx => by
              obtain ⟨k, hk, rfl⟩ := List.mem_map.mp hx
              have hk := List.mem_range.mp (List.mem_filter.mp hk).1
              exact ⟨clsOf_lt, clsOf_len D n _ k, e3 _ (getD_mem (by omega))⟩
            have lpub : (pubL pl n (csAt D n pl)).length ≤ n := by unfold pubL; rw [List.length_map]; exact Nat.le_trans (List.length_filter_le _ _) (by rw [List.length_range]; exact Nat.le_refl _)
            generalize pubL pl n (csAt D n pl) = pubs at lt hpub lpub q
            have ltl := lt.1
            refine ⟨_, rfl, ta, rfl, ⟨_, SqT.of eta⟩, fun D3 nD3 => ?_⟩
            refine lc_it (walk_tup (K := K) (a := ta) (xs := tus)) (fun i H' => H' D3 = some (.lst (((pubs.take i).map fun x => !unsB F C W x.2).map V.bl)) ∧ Same H3 H') ⟨upd_same, same_upd (Same.refl H3) nD3⟩ ?_ ?_ ?_
            · rintro i H' _ ⟨_, k⟩
              exact SqT.of (k _ _ eta)
            · rintro i x H4 H5 hi ⟨eD3, k4⟩ ⟨rfl, hx⟩
              obtain ⟨⟨lv, ms⟩, epr, b, _, cv, rfl, eb, rfl, ca, rfl, eca⟩ := lt.at hx
              have ⟨h1, h2, _⟩ := hpub _ (List.mem_of_getElem? epr)
              have k14 := k13.trans k4
              have es : (pubs.take (i + 1)).map (fun x => !unsB F C W x.2) = (pubs.take i).map (fun x => !unsB F C W x.2) ++ [!unsB F C W ms] := by
                rw [take_one epr, List.map_append]; rfl
              rw [es, List.map_append]
              refine ⟨b, _, rfl, SqT.of (k4 _ _ eb), rfl, _, _, rfl, _, _, rfl, rfl, rfl, ?_⟩
              refine ⟨_, rfl, _, rfl, sc, ca, n, F, C, W, ms, rfl, hsc.mn (TK.same k14), osc, k4 _ _ eca, h1, Nat.lt_of_le_of_lt h2 (by omega), fun H6 k6 => ?_⟩
              exact ⟨_, k6 _ _ eD3, szN (by rw [List.length_map, List.length_map, List.length_take]; omega), by rw [upd_same]; rfl, same_mut (k4.trans k6) nD3⟩
            · rintro H4 ⟨eD3, k4⟩
              rw [List.take_of_length_le (by omega)] at eD3
              refine ⟨D3, _, rfl, .inl (.inl eD3), ?_⟩
              have eal : ((pubs.map fun x => !unsB F C W x.2).all id) = pubs.all fun x => !unsB F C W x.2 := by rw [List.all_map]; rfl
              rw [eal]
              refine ⟨_, rfl, ?_⟩
              have k14 := k13.trans k4
              cases hs : pubs.all fun x => !unsB F C W x.2 with
              | false =>
                have q := q H4 k14
                rw [hs] at q
                exact q
              | true =>
                rw [hs, Bool.true_and] at q
                have eta4 := k4 _ _ eta
                refine ⟨_, rfl, ta, rfl, ⟨_, SqT.of eta4⟩, fun D5 nD5 => ?_⟩
                have pmn : Mn (PairR natR NsR) := PairR.mn natR_mn NsR.mn
                refine lc_it (walk_tup (K := K) (a := ta) (xs := tus)) (fun i H' => ∃ zs, H' D5 = some (.lst zs) ∧ LV (PairR natR NsR H') zs (aboveL (pubs.take i)) ∧ Same H4 H' ∧ zs.length ≤ i) ⟨[], upd_same, LV.nil, same_upd (Same.refl H4) nD5, Nat.le_refl _⟩ ?_ ?_ ?_
                · rintro i H' _ ⟨_, _, _, k, _⟩
                  exact SqT.of (k _ _ eta4)
                · rintro i x H5 H6 hi ⟨zs, eD5, lz, k5, lzs⟩ ⟨rfl, hx⟩
                  obtain ⟨⟨lv, ms⟩, epr, b, _, cv, rfl, eb, rfl, ca, rfl, eca⟩ := lt.at hx
                  have eb5 := k5 _ _ (k4 _ _ eb)
                  have eca5 := k5 _ _ (k4 _ _ eca)
                  rw [above_snoc epr]
                  refine ⟨b, _, rfl, SqT.of eb5, rfl, _, _, rfl, _, _, rfl, rfl, rfl, ?_⟩
                  by_cases e : 0 < lv
                  · rw [if_pos e]
                    refine ⟨_, rfl, _, _, rfl, rfl, true, bTr (show (0 : Int) < (lv : Int) by omega), ?_⟩
                    refine ⟨_, rfl, _, rfl, by show 2 ≤ sizeLine; decide, fun t nt => ?_⟩
                    have nDt : D5 ≠ t := ne_of_none eD5 nt
                    have ept : PairR natR NsR (upd H6 t (.tup [nV lv, .ref ca])) (.ref t) (lv, ms) := ⟨t, _, _, rfl, upd_same, rfl, ca, rfl, by rw [upd_ne (ne_of_none eca5 nt)]; exact eca5⟩
                    have eDt : upd H6 t (.tup [nV lv, .ref ca]) D5 = some (.lst zs) := by rw [upd_ne nDt]; exact eD5
                    refine ⟨zs, eDt, szN (by omega), zs ++ [.ref t], upd_same, ?_, same_mut (same_upd k5 nt) nD5, by rw [List.length_append]; exact Nat.succ_le_succ lzs⟩
                    exact ((lz.mono fun _ _ z => pmn.to z (TK.new (TK.refl _) nt)).snoc ept).mono fun _ _ z => pmn.to z (TK.mut (TK.refl _) eDt)
                  · rw [if_neg e, List.append_nil]
                    exact ⟨_, rfl, _, _, rfl, rfl, false, bFa (show ¬ (0 : Int) < (lv : Int) by omega), zs, eD5, lz, k5, by omega⟩
                · rintro H5 ⟨zs, eD5, lz, k5, lzs⟩
                  rw [List.take_of_length_le (by omega)] at lz
                  have hab : ∀ x ∈ aboveL pubs, (∀ k ∈ x.2, k < n) ∧ x.2.length ≤ n ∧ x.1 < L ∧ 0 < x.1 := fun x hx => by
                    have ⟨a, b⟩ := List.mem_filter.mp hx
                    have ⟨c, d, e⟩ := hpub x a
                    exact ⟨c, d, e, of_decide_eq_true b⟩
                  have lab := above_len pubs
                  generalize aboveL pubs = ab at lz hab lab q
                  have lzz := lz.1
                  have k15 := k14.trans k5
                  have eqa5 := k15 _ _ eqa
                  refine ⟨_, rfl, qa, _, rfl, .inr (SqT.of eqa5), _, rfl, D5, _, rfl, .inl (SqL.of eD5), rfl, ?_⟩
                  refine ⟨_, rfl, ?_⟩
                  by_cases hl : paper.length = ab.length
                  · rw [decide_eq_true (show V.int (qus.length : Int) = V.int (zs.length : Int) from congrArg (fun n : Nat => V.int (n : Int)) (by omega)), if_pos rfl]
                    refine ⟨_, rfl, _, rfl, .L D5, .T qa, zs, qus, rfl, SqL.of eD5, SqT.of eqa5, fun D6 nD6 => ?_⟩
                    refine lc_it (walk_zipM (K := K) (p := .L D5) (q := .T qa) (xs := zs) (ys := qus) (n := ab.length) (by omega)) (fun i H' => H' D6 = some (.lst ((((List.range i).map fun i => rightB F C W D n (ab.getD i (0, [])) (paper.getD i []))).map V.bl)) ∧ Same H5 H') ⟨upd_same, same_upd (Same.refl H5) nD6⟩ ?_ ?_ ?_
                    · rintro i H' _ ⟨_, k⟩
                      exact ⟨SqL.of (k _ _ eD5), SqT.of (k _ _ eqa5)⟩
                    · rintro i x H6 H7 hi ⟨eD6, k6⟩ ⟨Tt, y1, y2, rfl, nT, rfl, h1, h2⟩
                      obtain ⟨⟨lv, ms⟩, epr, b, _, cv, rfl, eb, rfl, ca, rfl, eca⟩ := lz.at h1
                      obtain ⟨rs, ers, ra, rfl, era⟩ := lq.at h2
                      have ⟨a1, a2, a3, a4⟩ := hab _ (List.mem_of_getElem? epr)
                      have a1 : ∀ k ∈ ms, k < n := a1
                      have a2 : ms.length ≤ n := a2
                      have a3 : lv < L := a3
                      have a4 : 0 < lv := a4
                      have g1 : ab.getD i (0, []) = (lv, ms) := getD_of epr
                      have g2 : paper.getD i [] = rs := getD_of ers
                      have k7 := same_upd (o := .tup [.ref b, .ref ra]) k6 nT
                      have eT : upd H6 Tt (.tup [.ref b, .ref ra]) Tt = some (.tup [.ref b, .ref ra]) := upd_same
                      have eD7 : upd H6 Tt (.tup [.ref b, .ref ra]) D6 = some (.lst ((((List.range i).map fun i => rightB F C W D n (ab.getD i (0, [])) (paper.getD i []))).map V.bl)) := by rw [upd_ne (ne_of_none eD6 nT)]; exact eD6
                      generalize upd H6 Tt (.tup [.ref b, .ref ra]) = H8 at k7 eT eD7
                      have k17 := k15.trans k7
                      refine ⟨Tt, _, rfl, SqT.of eT, rfl, _, _, rfl, b, _, rfl, SqT.of (k7 _ _ eb), rfl, _, _, rfl, _, _, rfl, rfl, _, _, rfl, rfl, rfl, ?_⟩
                      refine ⟨_, rfl, _, rfl, _, rfl, _, rfl, _, rfl, sc, .ref va, lv, ca, ra, n, L, F, C, W, D, ms, rs, rfl, hsc.mn (TK.same k17), osc, VwR.mn.to hv (TK.same k17), o, a4, by omega, k7 _ _ eca, a1, by omega, k17 _ _ era, lrr _ (List.mem_of_getElem? ers), fun H9 k9 => ?_⟩
                      refine ⟨_, k9 _ _ eD7, szN (by rw [List.length_map, List.length_map, List.length_range]; omega), ?_, same_mut (k7.trans k9) nD6⟩
                      rw [upd_same, List.range_succ, List.map_append, List.map_append, List.map_cons, List.map_nil, g1, g2]; rfl
                    · rintro H6 ⟨eD6, k6⟩
                      refine ⟨D6, _, rfl, .inl (.inl eD6), ?_⟩
                      have q := q H6 (k15.trans k6)
                      have e : finB F C W D n ab paper = ((List.range ab.length).map fun i => rightB F C W D n (ab.getD i (0, [])) (paper.getD i [])).all id := by
                        unfold finB
                        rw [decide_eq_true hl, Bool.true_and, List.all_map]; rfl
                      rw [e] at q
                      exact q
                  · rw [decide_eq_false (show ¬ V.int (qus.length : Int) = V.int (zs.length : Int) from fun z => hl (by have := V.int.inj z; omega)), if_neg Bool.false_ne_true]
                    have q := q H5 k15
                    have e : finB F C W D n ab paper = false := by unfold finB; rw [decide_eq_false hl, Bool.false_and]
                    rw [e] at q
                    exact q
    · refine ⟨true, by rw [List.length_map, lvu]; exact congrArg (fun b => V.bl (!b)) (decide_eq_false (p := V.int (is.length : Int) = V.int (n : Int)) fun z => hlen (by have := V.int.inj z; omega)), ?_⟩
      have q := q H (Same.refl H)
      rw [bad (by unfold validB; rw [decide_eq_false hlen, Bool.false_and])] at q
      exact q
end
end Vf

set_option Elab.async false
set_option linter.all false
set_option maxRecDepth 100000
set_option maxHeartbeats 4000000
namespace Vf
open PySem PySem.Spec PyProof.Rows L2 TL
def honK (D : List (List PyData)) (n : Nat) (pl : List Nat) (k : Nat) : Bool := (csAt D n pl k).all fun o => decide (pl.getD o 0 = pl.getD k 0)
def keptL (pl : List Nat) (cs : Nat → List Nat) (i : Nat) : List (Nat × List Nat) := ((List.range i).filter fun k => hdAt cs k && decide (0 < pl.getD k 0)).map fun k => (pl.getD k 0, cs k)
theorem kept_above (pl : List Nat) (n : Nat) (cs : Nat → List Nat) : aboveL (pubL pl n cs) = keptL pl cs n := by
  unfold aboveL pubL keptL
  rw [List.filter_map, List.filter_filter]
  refine congrArg (List.map _) (List.filter_congr fun k _ => ?_)
  show (decide (0 < pl.getD k 0) && hdAt cs k) = _
  exact Bool.and_comm _ _
theorem kept_succ (pl : List Nat) (cs : Nat → List Nat) (i : Nat) : keptL pl cs (i + 1) = keptL pl cs i ++ if (hdAt cs i && decide (0 < pl.getD i 0)) = true then [(pl.getD i 0, cs i)] else [] := by
  unfold keptL
  rw [List.range_succ, List.filter_append, List.map_append]
  refine congrArg _ ?_
  by_cases e : (hdAt cs i && decide (0 < pl.getD i 0)) = true
  · rw [if_pos e, List.filter_cons_of_pos (by show (hdAt cs i && decide (0 < pl.getD i 0)) = true; exact e)]; rfl
  · rw [if_neg e, List.filter_cons_of_neg (by show ¬ (hdAt cs i && decide (0 < pl.getD i 0)) = true; exact e)]; rfl
theorem kept_len (pl : List Nat) (cs : Nat → List Nat) (i : Nat) : (keptL pl cs i).length ≤ i := by
  unfold keptL
  rw [List.length_map]
  exact Nat.le_trans (List.length_filter_le _ _) (by rw [List.length_range]; exact Nat.le_refl _)
theorem honC_plan {n L : Nat} {D : List (List PyData)} {V : Nat → Nat → Nat} {pl : List Nat} (h : Lvs n L (eqs D) V) (lt : ∀ k, k < n → pl.getD k 0 < L) (hh : honC D n pl = true) : PlanOk n L V (fun _ => false) (pl.getD · 0) := by
  refine ⟨lt, fun k j hk hj e => ?_, fun _ _ => rfl⟩
  have := List.all_eq_true.mp (List.all_eq_true.mp hh k (List.mem_range.mpr hk)) j (by
    show j ∈ clsOf D n (pl.getD k 0) k
    rw [clsOf_cl h (lt k hk) hk, cl_mem]
    exact ⟨hj, e⟩)
  exact of_decide_eq_true this
theorem jb_unsafe {n L : Nat} {F C : List (List Nat)} {W : List Wt} {D : List (List PyData)} {V : Nat → Nat → Nat} {pl : List Nat} {fb : Bool} (h : Lvs n L (eqs D) V) (lt : ∀ k, k < n → pl.getD k 0 < L) {k : Nat} (hk : k < n) (hu : unsB F C W (csAt D n pl k) = true) :
    (honC D n pl && ((pubL pl n (csAt D n pl)).all (fun x => !unsB F C W x.2) && fb)) = false := by
  cases hh : honC D n pl with
  | false => rfl
  | true =>
    have ok := honC_plan h lt hh
    have self := cs_self h ok hk
    have asc : (csAt D n pl k).Pairwise (· < ·) := by rw [cs_cl h ok hk]; exact cl_asc V n _ k
    have ⟨m, le⟩ := head_le asc self
    have e := cs_same h ok hk m
    have : (pubL pl n (csAt D n pl)).all (fun x => !unsB F C W x.2) = false := by
      refine List.all_eq_false.mpr ⟨(pl.getD ((csAt D n pl k).headD 0) 0, csAt D n pl ((csAt D n pl k).headD 0)), ?_, ?_⟩
      · refine List.mem_map.mpr ⟨(csAt D n pl k).headD 0, List.mem_filter.mpr ⟨List.mem_range.mpr (by omega), ?_⟩, rfl⟩
        unfold hdAt
        rw [e]
        exact decide_eq_true rfl
      · show ¬ (!unsB F C W (csAt D n pl ((csAt D n pl k).headD 0))) = true
        rw [e, hu]; decide
    rw [this]; rfl
theorem jb_dis {n : Nat} {D : List (List PyData)} {pl : List Nat} {fb : Bool} {k : Nat} (hk : k < n) (h : honK D n pl k = false) : (honC D n pl && fb) = false := by
  have : honC D n pl = false := List.all_eq_false.mpr ⟨k, List.mem_range.mpr hk, by show ¬ honK D n pl k = true; rw [h]; decide⟩
  rw [this]; rfl
theorem jb_good {n : Nat} {F C : List (List Nat)} {W : List Wt} {D : List (List PyData)} {pl : List Nat} {fb : Bool} (h1 : ∀ k, k < n → honK D n pl k = true) (h2 : ∀ k, k < n → unsB F C W (csAt D n pl k) = false) : (honC D n pl && ((pubL pl n (csAt D n pl)).all (fun x => !unsB F C W x.2) && fb)) = fb := by
  have e1 : honC D n pl = true := List.all_eq_true.mpr fun k hk => h1 k (List.mem_range.mp hk)
  have e2 : (pubL pl n (csAt D n pl)).all (fun x => !unsB F C W x.2) = true := List.all_eq_true.mpr fun x hx => by
    obtain ⟨k, hk, rfl⟩ := List.mem_map.mp hx
    have hk := List.mem_range.mp (List.mem_filter.mp hk).1
    show (!unsB F C W (csAt D n pl k)) = true
    rw [h2 k hk]; rfl
  rw [e1, e2, Bool.true_and, Bool.true_and]
/-- a row of a kept class: at an address of its own -/
def LkF (H0 : Hp) (x : Addr) (H : Hp) (v : V) (p : Nat × List Nat) : Prop := LsF H0 x H v p.2
section
variable {P : Program} {w : World} {K : PySem.W.Frag} {mg : Str → Option Value} {base : Heap}
def spTakes : Sp := fun vs H Q _ => ∃ (sc v pvv : V) (p : Addr) (n L : Nat) (F C : List (List Nat)) (W : List Wt) (D : List (List PyData)) (VV : Nat → Nat → Nat) (is : List Int) (paper : List (List Int)), vs = [sc, v, .ref p, pvv] ∧ ScR H sc F C W ∧ ScOk n F C W ∧ VwR H v D ∧ VwOk n L D ∧ 1 ≤ n ∧ L ≤ 100 ∧ Lvs n L (eqs D) VV ∧ H p = some (.tup (is.map V.int)) ∧ is.length ≤ 1000 ∧ TupR IsR H pvv paper ∧ paper.length ≤ 1000 ∧ (∀ r ∈ paper, r.length ≤ 100) ∧
  ∀ H', Same H H' → Q (.bl (judgeB F C W D n L is paper)) H'
theorem ok_takes (T : Txt K mg) : FnOk P w K mg base CX0 3 T.a_law_plan_takes T.d_law_plan_takes ["_law_scene", "_law_views", "_law_plan", "_law_paper"] spTakes := by
  have G_law_unsafe : FnOk P w K mg base CX0 2 T.a_law_unsafe T.d_law_unsafe ["_law_scene", "_law_members"] spUns := ok_uns T
  have G_law_plan_rows : FnOk P w K mg base CX0 2 T.a_law_plan_rows T.d_law_plan_rows ["_law_scene", "_law_views", "_law_members", "_law_level"] spRows := ok_rows T
  refine T.D_law_plan_takes.F.ok sc_law_plan_takes (fun vs H Q E h => ?_) (fun cdv A outer s H vs Q E hr h => ?_)
  · obtain ⟨sc, v, pvv, p, n, L, F, C, W, D, VV, is, paper, rfl, _⟩ := h
    rfl
  · obtain ⟨sc, v, pvv, p, n, L, F, C, W, D, VV, is, paper, rfl, hsc, osc, hv, o, n1, L100, lvs, ep, lis, hpp, lpp, lrr, q⟩ := h
    refine ⟨_, (pss_cons (ps_if (pt_cmpR op_ne (pe_callB call_len_seq (by rfl) T.n_len PySem.boot_len (pa_cons (pv 2) pa_nil)) (pe_callB call_len_seq (by rfl) T.n_len PySem.boot_len (pa_cons (pv 1) pa_nil)) (nomark _)) (pss_one (ps_ret pe_bl)) pss_nil)
      (pss_cons (ps_for PassesOwn.never rfl (pi_tup (pv 2)) (pg_name (i := 4) sc_law_plan_takes.nd rfl (.inl rfl)) (pss_one (ps_if (PW.pt (pw_or (pt_cmpR op_lt (pv 4) pe_int (nomark _)) (pw_or1 (pt_cmpR op_ge (pv 4) (pe_callB call_len_seq (by rfl) T.n_len PySem.boot_len (pa_cons (pe_ix ix_tup (pv 1) pe_int (fun _ _ => rfl)) pa_nil)) (nomark _))))) (pss_one (ps_ret pe_bl)) pss_nil)))
      (pss_cons (ps_set (i := 5) sc_law_plan_takes.nd rfl (.inl rfl) (pe_lst pa_nil))
      (pss_cons (ps_for PassesOwn.never rfl (pi_range1 (by rfl) T.n_range (pa_cons (pe_callB call_len_seq (by rfl) T.n_len PySem.boot_len (pa_cons (pv 2) pa_nil)) pa_nil)) (pg_name (i := 6) sc_law_plan_takes.nd rfl (.inr rfl)) (pss_cons (ps_setLc (i := 7) (own := [("_law_n", 9)]) (g := gName 9) rfl sc_law_plan_takes.nd rfl rfl (sw_true rfl rfl rfl (by decide +kernel)) (pi_range1 (by rfl) T.n_range (pa_cons (pe_callB call_len_seq (by rfl) T.n_len PySem.boot_len (pa_cons (pv 2) pa_nil)) pa_nil)) (blkOk_by (own := [("_law_n", 9)]) (N := ["_law_scene", "_law_views", "_law_plan", "_law_paper", "_law_level", "_law_kept", "_law_k", "_law_members", "_law_r", "_law_n"]) (sc := (defScope s_law_plan_takes)) (by decide +kernel)) (fun _ _ _ _ _ => (pg_name (i := 9) sc_law_plan_takes.nd rfl (.inl rfl))) (fun _ _ _ _ _ => (pts_one (pt_cmpR (r := rEqD K) (op_eqD (Room.units hr)) (pe_ix (r := rIxT K) ix_tup (pe_ix (r := rIxT K) ix_tup (pv 1) (pv 9) (fun _ _ => rfl)) (pe_ix (r := rIxT K) ix_tup (pv 2) (pv 6) (fun _ _ => rfl)) (fun _ _ => rfl)) (pe_ix (r := rIxT K) ix_tup (pe_ix (r := rIxT K) ix_tup (pv 1) (pv 6) (fun _ _ => rfl)) (pe_ix (r := rIxT K) ix_tup (pv 2) (pv 6) (fun _ _ => rfl)) (fun _ _ => rfl)) (nomark _)))) (fun _ _ _ _ _ => (pv 9)))
      (pss_cons (ps_if (PW.pt (pw_or (pt_truth (pe_lc (own := [("_law_n", 9)]) (g := gName 9) rfl sc_law_plan_takes.nd (pi_list (pv 7)) (blkOk_by (own := [("_law_n", 9)]) (N := ["_law_scene", "_law_views", "_law_plan", "_law_paper", "_law_level", "_law_kept", "_law_k", "_law_members", "_law_r", "_law_n"]) (sc := (defScope s_law_plan_takes)) (by decide +kernel)) (fun _ _ _ _ _ => (pg_name (i := 9) sc_law_plan_takes.nd rfl (.inl rfl))) (fun _ _ _ _ _ => (pts_one (pt_cmpR op_ne (pe_ix (r := rIxT K) ix_tup (pv 2) (pv 9) (fun _ _ => rfl)) (pe_ix (r := rIxT K) ix_tup (pv 2) (pv 6) (fun _ _ => rfl)) (nomark _)))) (fun _ _ _ _ _ => (pv 9))) (by intro _; rfl)) (pw_or1 (pt_truth (pe_call G_law_unsafe (hr.mono (by decide)) (by rfl) T.D_law_unsafe.G T.D_law_unsafe.F.kp T.D_law_unsafe.B .nil pass0 (pa_cons (pv 0) (pa_cons (pv 7) pa_nil))) (by intro _; rfl))))) (pss_one (ps_ret pe_bl)) pss_nil)
      (pss_one (ps_if (PW.pt (pw_and (pt_cmpR op_eq (pe_ix ix_list (pv 7) pe_int (fun _ _ => rfl)) (pv 6) (nomark _)) (pw_and1 (pt_cmpR op_gt (pe_ix ix_tup (pv 2) (pv 6) (fun _ _ => rfl)) pe_int (nomark _))))) (pss_one (ps_expr (pe_bm PySem.F.plainAttrs_list PySem.F.slot_list_append PySem.F.type_list_append mt_append (pv 5) (pa_cons (pv 7) pa_nil)))) pss_nil)))))
      (pss_cons (ps_if (pt_cmpR op_ne (pe_callB call_len_seq (by rfl) T.n_len PySem.boot_len (pa_cons (pv 3) pa_nil)) (pe_callB call_len_seq (by rfl) T.n_len PySem.boot_len (pa_cons (pv 5) pa_nil)) (nomark _)) (pss_one (ps_ret pe_bl)) pss_nil)
      (pss_cons (ps_for PassesOwn.never rfl (pi_range1 (by rfl) T.n_range (pa_cons (pe_callB call_len_seq (by rfl) T.n_len PySem.boot_len (pa_cons (pv 5) pa_nil)) pa_nil)) (pg_name (i := 8) sc_law_plan_takes.nd rfl (.inl rfl)) (pss_one (ps_if (pt_cmpR (op_notInD (hu65 hr)) (pe_ix ix_tup (pv 3) (pv 8) (fun _ _ => rfl)) (pe_call G_law_plan_rows (hr.mono (by decide)) (by rfl) T.D_law_plan_rows.G T.D_law_plan_rows.F.kp T.D_law_plan_rows.B .nil pass0 (pa_cons (pv 0) (pa_cons (pv 1) (pa_cons (pe_ix ix_list (pv 5) (pv 8) (fun _ _ => rfl)) (pa_cons (pe_ix ix_tup (pv 2) (pe_ix ix_list (pe_ix ix_list (pv 5) (pv 8) (fun _ _ => rfl)) pe_int (fun _ _ => rfl)) (fun _ _ => rfl)) pa_nil))))) (by rfl)) (pss_one (ps_ret pe_bl)) pss_nil)))
      (pss_one (ps_ret pe_bl)))))))), ?_⟩
    have nn := osc.nn
    obtain ⟨va, vus, rfl, eva, lvu, hat⟩ := hv.get o
    obtain ⟨r0, r0s, er0, er02, lr0, _⟩ := hat 0 (by omega)
    obtain ⟨qa, qus, rfl, eqa, lq⟩ := id hpp
    have lqq := lq.1
    have bad : validB n L is = false → judgeB F C W D n L is paper = false := fun h => by unfold judgeB; rw [h]; rfl
    refine ⟨_, rfl, p, _, rfl, .inr (SqT.of ep), _, rfl, va, _, rfl, .inr (SqT.of eva), rfl, ?_⟩
    by_cases hlen : is.length = n
    · refine ⟨false, by rw [List.length_map, lvu, hlen]; exact congrArg (fun b => V.bl (!b)) (decide_eq_true (p := V.int (n : Int) = V.int (n : Int)) rfl), ?_⟩
      refine ⟨_, rfl, p, rfl, ⟨_, SqT.of ep⟩, ?_⟩
      refine for_it (walk_tup (K := K) (a := p) (xs := is.map V.int)) (fun i σ' H' => ∃ (x4 : Option V), σ' = [some sc, some (.ref va), some (.ref p), some (.ref qa), x4, none, none, none, none, none] ∧ H' = H ∧ ∀ y ∈ is.take i, 0 ≤ y ∧ y < (L : Int)) ⟨none, rfl, rfl, fun _ h => by cases h⟩ ?_ ?_ ?_
      · rintro i σ' H' _ ⟨_, _, rfl, _⟩
        exact SqT.of ep
      · rintro i x σ' H1 H2 hi ⟨x4, rfl, rfl, hok⟩ ⟨rfl, hx⟩
        rw [List.getElem?_map] at hx
        obtain ⟨y, hy, e⟩ := Option.map_eq_some_iff.mp hx
        subst e
        have no : ¬ (0 ≤ y ∧ y < (L : Int)) → judgeB F C W D n L is paper = false := fun h => bad (by
          unfold validB
          rw [Bool.and_eq_false_iff]
          refine .inr (List.all_eq_false.mpr ⟨y, List.mem_of_getElem? hy, fun z => h ?_⟩)
          rw [Bool.and_eq_true] at z
          exact ⟨of_decide_eq_true z.1, of_decide_eq_true z.2⟩)
        by_cases c : y < 0
        · refine ⟨_, rfl, _, _, rfl, rfl, true, bTr c, ?_⟩
          have q := q H2 (Same.refl _)
          rw [no (by omega)] at q
          exact q
        · refine ⟨_, rfl, _, _, rfl, rfl, false, bFa c, ?_⟩
          refine ⟨_, rfl, _, rfl, va, _, _, _, rfl, rfl, SqT.of eva, atI_nat (j := 0) er0, r0, _, rfl, .inr (SqT.of er02), _, _, rfl, rfl, ?_⟩
          by_cases c2 : (L : Int) ≤ y
          · refine ⟨true, by rw [lr0]; exact bTr c2, ?_⟩
            have q := q H2 (Same.refl _)
            rw [no (by omega)] at q
            exact q
          · refine ⟨false, by rw [lr0]; exact bFa c2, ?_⟩
            refine ⟨_, rfl, rfl, fun z hz => ?_⟩
            rw [take_one hy] at hz
            rcases List.mem_append.mp hz with h | h
            · exact hok z h
            · rw [List.mem_singleton.mp h]; omega
      · rintro σ' H1 ⟨x4, rfl, rfl, hok⟩
        rw [List.length_map, List.take_length] at hok
        have hval : validB n L is = true := by
          unfold validB
          rw [decide_eq_true hlen, Bool.true_and]
          refine List.all_eq_true.mpr fun y hy => ?_
          have ⟨a, b⟩ := hok y hy
          rw [decide_eq_true a, decide_eq_true b]; rfl
        obtain ⟨e1, e2, e3⟩ := valid_nat hval
        have ej : judgeB F C W D n L is paper = (honC D n (toN is) && ((pubL (toN is) n (csAt D n (toN is))).all (fun x => !unsB F C W x.2) && finB F C W D n (aboveL (pubL (toN is) n (csAt D n (toN is)))) paper)) := by
          unfold judgeB; rw [hval, Bool.true_and]
        rw [ej] at q
        rw [e1, toI_map] at ep
        generalize toN is = pl at e1 e2 e3 q ep
        have hlt : ∀ k, k < n → pl.getD k 0 < L := fun k hk => e3 _ (getD_mem (by omega))
        have hself : ∀ k, k < n → k ∈ csAt D n pl k := fun k hk => by
          show k ∈ clsOf D n (pl.getD k 0) k
          rw [clsOf_cl lvs (hlt k hk) hk, cl_mem]
          exact ⟨hk, rfl⟩
        have unc : UnOk n (unsB F C W) := un_ok
        refine ⟨by show 0 ≤ sizeLine; decide, fun B nB => ?_⟩
        have k0 := same_upd (o := .lst []) (Same.refl H1) nB
        have eB0 : upd H1 B (.lst []) B = some (.lst []) := upd_same
        generalize upd H1 B (.lst []) = H0 at k0 eB0
        refine ⟨_, rfl, p, _, rfl, .inr (SqT.of (k0 _ _ ep)), (n : Int), by rw [List.length_map, e2], by omega, by omega, ?_⟩
        rw [toNat_k]
        refine for_it walk_range (fun i σ' H' => ∃ (us : List V) (x4 x6 x7 x8 x9 : Option V), σ' = [some sc, some (.ref va), some (.ref p), some (.ref qa), x4, some (.ref B), x6, x7, x8, x9] ∧ Same H1 H' ∧ H' B = some (.lst us) ∧ LV (LkF H1 B H') us (keptL pl (csAt D n pl) i) ∧ ∀ k, k < i → honK D n pl k = true ∧ unsB F C W (csAt D n pl k) = false) ⟨[], _, none, none, none, none, rfl, k0, eB0, LV.nil, fun k hk => absurd hk (by omega)⟩ (fun _ _ _ _ _ => trivial) ?_ ?_
        · rintro k x σ' H2 H3 hk ⟨us, x4, x6, x7, x8, x9, rfl, k2, eB, lv, hall⟩ ⟨rfl, hx⟩
          have hx : x = nV k := by rw [hx]; exact int0 k
          subst hx
          have gk := atI_nat (nat_at (xs := pl) (i := k) (by omega))
          have hl := hlt k hk
          refine ⟨_, rfl, p, _, rfl, .inr (SqT.of (k2 _ _ ep)), (n : Int), by rw [List.length_map, e2], by omega, by omega, ?_⟩
          rw [toNat_k]
          refine fun C2 nC => ?_
          have nBC : B ≠ C2 := ne_of_none eB nC
          obtain ⟨rk, rks, erk, erk2, lrk, hlk⟩ := hat k hk
          obtain ⟨vx, evx, tvx⟩ := hlk _ hl
          have ecs : csAt D n pl k = (List.range n).filter fun m => eqs D (pl.getD k 0) m k := rfl
          have hcs : ∀ m ∈ csAt D n pl k, m < n := clsOf_lt
          have lcs : (csAt D n pl k).length ≤ n := clsOf_len D n _ k
          have jdis := fun (fb : Bool) (h : honK D n pl k = false) => jb_dis (fb := fb) hk h
          have juns := fun (fb : Bool) (h : unsB F C W (csAt D n pl k) = true) => jb_unsafe (fb := fb) lvs hlt hk h
          have hself := hself k hk
          have eks := kept_succ pl (csAt D n pl) k
          have ehd : hdAt (csAt D n pl) k = decide ((csAt D n pl k).headD 0 = k) := rfl
          have ehon : honK D n pl k = (csAt D n pl k).all fun o => decide (pl.getD o 0 = pl.getD k 0) := rfl
          refine lc_it walk_range (fun j H' => H' C2 = some (.lst (((List.range j).filter fun m => eqs D (pl.getD k 0) m k).map nV)) ∧ Same H3 H') ⟨upd_same, same_upd (Same.refl H3) nC⟩ (fun _ _ _ _ => trivial) ?_ ?_
          · rintro j x H4 H5 hj ⟨eC, k4⟩ ⟨rfl, hx⟩
            have hx : x = nV j := by rw [hx]; exact int0 j
            subst hx
            have kk := k2.trans k4
            obtain ⟨rj, rjs, erj, erj2, lrj, hlj⟩ := hat j hj
            obtain ⟨vy, evy, tvy⟩ := hlj _ hl
            have e1 : okD (dat D j (pl.getD k 0)) := o.ok hj hl
            have e2 : okD (dat D k (pl.getD k 0)) := o.ok hk hl
            have lm : ((List.range j).filter fun m => eqs D (pl.getD k 0) m k).length ≤ j := Nat.le_trans (List.length_filter_le _ _) (by rw [List.length_range]; exact Nat.le_refl _)
            have tp := SqT.of (K := K) (kk _ _ ep)
            refine ⟨rfl, ?_⟩
            refine ⟨_, rfl, _, rfl, va, _, _, _, rfl, rfl, SqT.of (kk _ _ eva), atI_nat erj, _, rfl, _, rfl, p, _, _, _, rfl, rfl, tp, gk, rj, _, _, _, rfl, rfl, SqT.of (kk _ _ erj2), atI_nat evy, _, rfl, _, rfl, va, _, _, _, rfl, rfl, SqT.of (kk _ _ eva), atI_nat erk, _, rfl, _, rfl, p, _, _, _, rfl, rfl, tp, gk, rk, _, _, _, rfl, rfl, SqT.of (kk _ _ erk2), atI_nat evx, _, _, (Td.to (TK.same kk) tvy).dp, (Td.to (TK.same kk) tvx).dp, e1.sh, e2.sh, ?_⟩
            rw [List.range_succ, List.filter_append]
            cases e : eqs D (pl.getD k 0) j k with
            | true =>
              have e' : PyData.eqv (dat D j (pl.getD k 0)) (dat D k (pl.getD k 0)) = true := e
              refine ⟨true, by rw [e'], ?_⟩
              refine ⟨_, rfl, _, eC, szN (by rw [List.length_map]; omega), ?_, same_mut k4 nC⟩
              rw [upd_same, List.filter_cons_of_pos (by rw [e]), List.map_append]; rfl
            | false =>
              have e' : PyData.eqv (dat D j (pl.getD k 0)) (dat D k (pl.getD k 0)) = false := e
              refine ⟨false, by rw [e'], ?_⟩
              rw [List.filter_cons_of_neg (by rw [e]; decide), List.filter_nil, List.append_nil]
              exact ⟨eC, k4⟩
          · rintro H4 ⟨eC, k4⟩
            rw [← ecs] at eC
            clear ecs
            generalize hcsE : csAt D n pl k = cs at eC hcs lcs jdis juns hself eks ehd ehon
            have k24 := k2.trans k4
            have eB4 := k4 _ _ eB
            refine ⟨_, rfl, C2, rfl, ⟨_, SqL.of eC⟩, fun D2 nD2 => ?_⟩
            refine lc_it (walk_list (K := K) (a := C2) (xs := cs.map nV)) (fun j H' => H' D2 = some (.lst (((cs.take j).filter fun m => !decide (pl.getD m 0 = pl.getD k 0)).map nV)) ∧ Same H4 H') ⟨upd_same, same_upd (Same.refl H4) nD2⟩ ?_ ?_ ?_
            · rintro j H' _ ⟨_, k⟩
              exact SqL.of (k _ _ eC)
            · rintro j x H5 H6 hj ⟨eD, k5⟩ ⟨rfl, hx⟩
              rw [List.length_map] at hj
              rw [nat_at hj] at hx
              have hx := Option.some.inj hx
              subst hx
              have hon := hcs _ (getD_mem (d := 0) hj)
              have k25 := k24.trans k5
              have lm : ((cs.take j).filter fun m => !decide (pl.getD m 0 = pl.getD k 0)).length ≤ j := Nat.le_trans (List.length_filter_le _ _) (by rw [List.length_take]; omega)
              have es : (cs.take (j + 1)).filter (fun m => !decide (pl.getD m 0 = pl.getD k 0)) = (cs.take j).filter (fun m => !decide (pl.getD m 0 = pl.getD k 0)) ++ if pl.getD (cs.getD j 0) 0 = pl.getD k 0 then [] else [cs.getD j 0] := by
                rw [take_oneD 0 hj, List.filter_append]
                refine congrArg _ ?_
                by_cases c : pl.getD (cs.getD j 0) 0 = pl.getD k 0
                · rw [if_pos c, List.filter_cons_of_neg (by rw [decide_eq_true c]; decide)]; rfl
                · rw [if_neg c, List.filter_cons_of_pos (by rw [decide_eq_false c]; rfl)]; rfl
              rw [es]
              generalize cs.getD j 0 = m at hon
              refine ⟨rfl, ?_⟩
              refine ⟨_, rfl, _, rfl, p, _, _, _, rfl, rfl, SqT.of (k25 _ _ ep), atI_nat (nat_at (i := m) (by omega)), _, rfl, _, rfl, p, _, _, _, rfl, rfl, SqT.of (k25 _ _ ep), gk, rfl, ?_⟩
              by_cases c : pl.getD m 0 = pl.getD k 0
              · rw [if_pos c, List.append_nil]
                exact ⟨false, by rw [decide_eq_true (congrArg nV c)]; rfl, eD, k5⟩
              · rw [if_neg c]
                refine ⟨true, by rw [decide_eq_false (fun z => c (nV_inj z))]; rfl, ?_⟩
                exact ⟨_, rfl, _, eD, szN (by rw [List.length_map]; omega), by rw [upd_same, List.map_append]; rfl, same_mut k5 nD2⟩
            · rintro H5 ⟨eD, k5⟩
              rw [List.length_map, List.take_length] at eD
              have k25 := k24.trans k5
              have ehe : ((cs.filter fun m => !decide (pl.getD m 0 = pl.getD k 0)).map nV).isEmpty = honK D n pl k := by
                rw [ehon]
                cases z : cs.all fun o => decide (pl.getD o 0 = pl.getD k 0) with
                | true =>
                  have : (cs.filter fun m => !decide (pl.getD m 0 = pl.getD k 0)) = [] := List.filter_eq_nil_iff.mpr fun m hm => by
                    have := List.all_eq_true.mp z m hm
                    rw [this]; decide
                  rw [this]; rfl
                | false =>
                  obtain ⟨m, hm, hb⟩ := List.all_eq_false.mp z
                  have : m ∈ cs.filter fun m => !decide (pl.getD m 0 = pl.getD k 0) := List.mem_filter.mpr ⟨hm, by
                    cases y : decide (pl.getD m 0 = pl.getD k 0) with
                    | true => rw [y] at hb; exact absurd rfl hb
                    | false => rfl⟩
                  cases y : cs.filter fun m => !decide (pl.getD m 0 = pl.getD k 0) with
                  | nil => rw [y] at this; cases this
                  | cons a b => rfl
              refine ⟨_, .inl ⟨_, SqL.of eD, rfl⟩, ?_⟩
              rw [ehe]
              cases hh : honK D n pl k with
              | false =>
                have q := q H5 k25
                rw [jdis _ hh] at q
                exact q
              | true =>
                refine ⟨_, rfl, _, rfl, sc, C2, n, F, C, W, cs, rfl, hsc.mn (TK.same k25), osc, k5 _ _ eC, hcs, by omega, fun H6 u us6 k6 eu lu6 hu => ?_⟩
                refine ⟨_, .inl ⟨_, SqL.of eu, rfl⟩, ?_⟩
                rw [hu]
                have k26 := k25.trans k6
                cases hun : unsB F C W cs with
                | true =>
                  have q := q H6 k26
                  rw [juns _ hun] at q
                  exact q
                | false =>
                  have hall2 : ∀ j, j < k → honK D n pl j = true ∧ unsB F C W (csAt D n pl j) = false := hall
                  have eC6 := k6 _ _ (k5 _ _ eC)
                  have eB6 := k6 _ _ (k5 _ _ eB4)
                  have lv6 : LV (LkF H1 B H6) us (keptL pl (csAt D n pl) k) := lv.mono fun _ _ z => LsF.off z fun b o _ h => k6 _ _ (k5 _ _ (k4 _ _ h))
                  have hall3 : ∀ j, j < k + 1 → honK D n pl j = true ∧ unsB F C W (csAt D n pl j) = false := fun j hj => by
                    rcases Nat.lt_succ_iff_lt_or_eq.mp hj with h | h
                    · exact hall2 j h
                    · rw [h, hcsE]; exact ⟨hh, hun⟩
                  have g0 : (cs.map nV)[0]? = some (nV (cs.headD 0)) := by
                    cases cs with
                    | nil => cases hself
                    | cons a b => rfl
                  have kl := kept_len pl (csAt D n pl) k
                  have no : ¬ (cs.headD 0 = k ∧ 0 < pl.getD k 0) → keptL pl (csAt D n pl) (k + 1) = keptL pl (csAt D n pl) k := fun z => by
                    rw [eks, if_neg (fun y => z (by
                      rw [ehd, Bool.and_eq_true] at y
                      exact ⟨of_decide_eq_true y.1, of_decide_eq_true y.2⟩)), List.append_nil]
                  refine ⟨_, rfl, C2, _, _, _, rfl, rfl, SqL.of eC6, atI_nat (j := 0) g0, _, rfl, rfl, ?_⟩
                  by_cases c : cs.headD 0 = k
                  · refine ⟨true, bTr (congrArg nV c), ?_⟩
                    refine ⟨_, rfl, _, rfl, p, _, _, _, rfl, rfl, SqT.of (k26 _ _ ep), gk, _, _, rfl, rfl, ?_⟩
                    by_cases c2 : 0 < pl.getD k 0
                    · refine ⟨true, bTr (by omega), ?_⟩
                      refine ⟨.ref B, rfl, .inl ⟨rfl, _, .inl (.inl eB6)⟩, _, rfl, B, us, _, rfl, rfl, eB6, szN (by rw [lv6.1]; omega), ?_⟩
                      refine ⟨us ++ [.ref C2], _, _, _, _, _, rfl, same_mut k26 nB, upd_same, ?_, hall3⟩
                      rw [eks, if_pos (by rw [ehd, decide_eq_true c, decide_eq_true c2]; rfl)]
                      have hnew : LkF H1 B H6 (.ref C2) (pl.getD k 0, cs) := ⟨C2, rfl, nBC.symm, none_same k2 nC, eC6⟩
                      exact (lv6.snoc hnew).mono fun _ _ z => LsF.off z fun b o n h => by rw [upd_ne n]; exact h
                    · refine ⟨false, bFa (by omega), ?_⟩
                      rw [no (fun z => c2 z.2)]
                      exact ⟨us, _, _, _, _, _, rfl, k26, eB6, lv6, hall3⟩
                  · refine ⟨false, bFa (fun z => c (nV_inj z)), ?_⟩
                    rw [no (fun z => c z.1)]
                    exact ⟨us, _, _, _, _, _, rfl, k26, eB6, lv6, hall3⟩
        · rintro σ' H2 ⟨us, x4, x6, x7, x8, x9, rfl, k2, eB, lv, hall⟩
          have q : ∀ H', Same H1 H' → Q (.bl (finB F C W D n (keptL pl (csAt D n pl) n) paper)) H' := fun H' k => by
            have q := q H' k
            rw [jb_good (fun k hk => (hall k hk).1) (fun k hk => (hall k hk).2), kept_above] at q
            exact q
          have hab : ∀ x ∈ keptL pl (csAt D n pl) n, (∀ k ∈ x.2, k < n) ∧ x.2.length ≤ n ∧ x.1 < L ∧ 0 < x.1 ∧ x.2 ≠ [] ∧ x.2.headD 0 < n ∧ pl.getD (x.2.headD 0) 0 = x.1 := fun x hx => by
            obtain ⟨k, hk, rfl⟩ := List.mem_map.mp hx
            have ⟨a, b⟩ := List.mem_filter.mp hk
            have a := List.mem_range.mp a
            rw [Bool.and_eq_true] at b
            have b1 : (csAt D n pl k).headD 0 = k := of_decide_eq_true b.1
            have b2 := of_decide_eq_true b.2
            refine ⟨clsOf_lt, clsOf_len D n _ k, hlt k a, b2, fun z => ?_, by show (csAt D n pl k).headD 0 < n; rw [b1]; exact a, by show pl.getD ((csAt D n pl k).headD 0) 0 = _; rw [b1]⟩
            have := hself k a
            have z : csAt D n pl k = [] := z
            rw [z] at this; cases this
          have kl := kept_len pl (csAt D n pl) n
          generalize keptL pl (csAt D n pl) n = ab at lv q hab kl
          have lus := lv.1
          have eqa2 := k2 _ _ eqa
          refine ⟨_, rfl, qa, _, rfl, .inr (SqT.of eqa2), _, rfl, B, _, rfl, .inl (SqL.of eB), rfl, ?_⟩
          by_cases hl : paper.length = ab.length
          · refine ⟨false, congrArg (fun b => V.bl (!b)) (decide_eq_true (p := V.int (qus.length : Int) = V.int (us.length : Int)) (congrArg (fun n : Nat => V.int (n : Int)) (by omega))), ?_⟩
            refine ⟨_, rfl, B, _, rfl, .inl (SqL.of eB), (ab.length : Int), by rw [lus], by omega, by omega, ?_⟩
            rw [toNat_k]
            refine for_it walk_range (fun r σ' H' => ∃ (x8 : Option V), σ' = [some sc, some (.ref va), some (.ref p), some (.ref qa), x4, some (.ref B), x6, x7, x8, x9] ∧ Same H2 H' ∧ ((List.range r).all fun i => rightB F C W D n (ab.getD i (0, [])) (paper.getD i [])) = true) ⟨_, rfl, Same.refl _, rfl⟩ (fun _ _ _ _ _ => trivial) ?_ ?_
            · rintro r x σ' H3 H4 hr ⟨x8, rfl, k3, hok⟩ ⟨rfl, hx⟩
              have hx : x = nV r := by rw [hx]; exact int0 r
              subst hx
              have k23 := k2.trans k3
              obtain ⟨bu, ebu, hbu⟩ := lv.get0 (i := r) (0, []) hr
              have ⟨h1, h2, h3, h4, h5, h6, h7⟩ := hab _ (getD_mem (xs := ab) (i := r) (d := (0, [])) hr)
              obtain ⟨ru, eru, hru⟩ := lq.get0 (i := r) [] (by omega)
              have hrl := lrr _ (getD_mem (xs := paper) (i := r) (d := []) (by omega))
              have esucc : ((List.range (r + 1)).all fun i => rightB F C W D n (ab.getD i (0, [])) (paper.getD i [])) = rightB F C W D n (ab.getD r (0, [])) (paper.getD r []) := by
                rw [List.range_succ, List.all_append, hok, Bool.true_and, List.all_cons, List.all_nil, Bool.and_true]
              have hfail : rightB F C W D n (ab.getD r (0, [])) (paper.getD r []) = false → finB F C W D n ab paper = false := fun z => by
                unfold finB
                rw [show ((List.range ab.length).all fun i => rightB F C W D n (ab.getD i (0, [])) (paper.getD i [])) = false from List.all_eq_false.mpr ⟨r, List.mem_range.mpr hr, by rw [z]; decide⟩, Bool.and_false]
              rw [esucc]
              generalize ab.getD r (0, []) = x at hbu h1 h2 h3 h4 h5 h6 h7 hfail
              generalize paper.getD r [] = rs at hru hfail hrl
              obtain ⟨lv0, ms⟩ := x
              obtain ⟨ra, rfl, era⟩ := hru
              obtain ⟨ca, rfl, nca, _, eca⟩ := hbu
              have h1 : ∀ k ∈ ms, k < n := h1
              have h2 : ms.length ≤ n := h2
              have h3 : lv0 < L := h3
              have h4 : 0 < lv0 := h4
              have h5 : ms ≠ [] := h5
              have h6 : ms.headD 0 < n := h6
              have h7 : pl.getD (ms.headD 0) 0 = lv0 := h7
              have eca3 : H4 ca = some (.lst (ms.map nV)) := k3 _ _ eca
              have g0 : (ms.map nV)[0]? = some (nV (ms.headD 0)) := by
                cases ms with
                | nil => exact absurd rfl h5
                | cons a b => rfl
              have gp := atI_nat (nat_at (xs := pl) (i := ms.headD 0) (by omega))
              rw [h7] at gp
              have eB3 := k3 _ _ eB
              refine ⟨_, rfl, _, rfl, qa, _, _, _, rfl, rfl, SqT.of (k23 _ _ eqa), atI_nat eru, _, rfl, _, rfl, _, rfl, _, rfl, B, _, _, _, rfl, rfl, SqL.of eB3, atI_nat ebu, _, rfl, _, rfl, _, rfl, B, _, _, _, rfl, rfl, SqL.of eB3, atI_nat ebu, ca, _, _, _, rfl, rfl, SqL.of eca3, atI_nat (j := 0) g0, p, _, _, _, rfl, rfl, SqT.of (k23 _ _ ep), gp, sc, .ref va, ca, lv0, n, L, F, C, W, D, ms, rfl, hsc.mn (TK.same k23), osc, VwR.mn.to hv (TK.same k23), o, h4, by omega, eca3, h1, by omega, fun H5 la us5 k5 _ ela lvr => ?_⟩
              have k25 := k23.trans k5
              refine ⟨dI rs, (rowsL F C W (fun k => clsOf D n (lv0 - 1) k) ms).map dN, dI_dp ⟨ra, rfl, k25 _ _ era⟩, .lst (SqL.of ela) (dNs_dp lvr), dI_shaped _, dNs_shaped _, ?_⟩
              rw [dN_any]
              cases hb : rightB F C W D n (lv0, ms) rs with
              | true =>
                have hb2 : decide (rs ∈ (rowsL F C W (fun k => clsOf D n (lv0 - 1) k) ms).map toI) = true := hb
                exact ⟨false, by rw [hb2]; rfl, _, rfl, k3.trans k5, rfl⟩
              | false =>
                have hb2 : decide (rs ∈ (rowsL F C W (fun k => clsOf D n (lv0 - 1) k) ms).map toI) = false := hb
                refine ⟨true, by rw [hb2]; rfl, ?_⟩
                have q := q H5 k25
                rw [hfail hb] at q
                exact q
            · rintro σ' H3 ⟨x8, rfl, k3, hok⟩
              have q := q H3 (k2.trans k3)
              have e : finB F C W D n ab paper = true := by unfold finB; rw [decide_eq_true hl, hok]; rfl
              rw [e] at q
              exact q
          · refine ⟨true, congrArg (fun b => V.bl (!b)) (decide_eq_false (p := V.int (qus.length : Int) = V.int (us.length : Int)) fun z => hl (by have := V.int.inj z; omega)), ?_⟩
            have q := q H2 k2
            have e : finB F C W D n ab paper = false := by unfold finB; rw [decide_eq_false hl, Bool.false_and]
            rw [e] at q
            exact q
    · refine ⟨true, by rw [List.length_map, lvu]; exact congrArg (fun b => V.bl (!b)) (decide_eq_false (p := V.int (is.length : Int) = V.int (n : Int)) fun z => hlen (by have := V.int.inj z; omega)), ?_⟩
      have q := q H (Same.refl H)
      rw [bad (by unfold validB; rw [decide_eq_false hlen, Bool.false_and])] at q
      exact q
end
end Vf

set_option Elab.async false
set_option linter.all false
set_option maxRecDepth 100000
set_option maxHeartbeats 4000000
namespace Vf
open PySem PySem.Spec PyProof.Rows L2 TL
theorem fnOr {P : Program} {w : World} {K : PySem.W.Frag} {mg : Str → Option Value} {base : Heap} {CX : CXT} {k : Nat} {f : Addr} {fd : FuncData} {ps : List Str} {sp sp' : Sp} (F : FnOk P w K mg base CX k f fd ps sp) (G : FnOk P w K mg base CX k f fd ps sp') :
    FnOk P w K mg base CX k f fd ps (fun vs H Q E => sp vs H Q E ∨ sp' vs H Q E) :=
  ⟨fun vs H Q E h => h.elim (F.len vs H Q E) (G.len vs H Q E), fun A outer s H args us vs Q E hr he hb hv h => h.elim (F.run A outer s H args us vs Q E hr he hb hv) (G.run A outer s H args us vs Q E hr he hb hv)⟩
section
variable {P : Program} {w : World} {K : PySem.W.Frag} {mg : Str → Option Value} {base : Heap}
/-- two bools: whether they are one -/
def spExactB : Sp := fun vs H Q _ => ∃ b : Bool, vs = [.bl b, .bl b] ∧ Q (.bl true) H
theorem ok_exactB (T : Txt K mg) : FnOk P w K mg base CX0 2 T.a_law_exact T.d_law_exact ["_law_told", "_law_due"] spExactB := by
  have G_law_exact : FnOk P w K mg base CX0 1 T.a_law_exact T.d_law_exact ["_law_told", "_law_due"] (spExact 0) := ok_exact T 0
  refine T.D_law_exact.F.ok sc_law_exact (fun vs H Q E h => ?_) (fun cdv A outer s H vs Q E hr h => ?_)
  · obtain ⟨b, rfl, _⟩ := h
    rfl
  · obtain ⟨b, rfl, q⟩ := h
    refine ⟨_, (pss_cons (ps_if (pt_val (pe_callB call_isi (by rfl) T.n_isinstance (by decide +kernel) (pa_cons (pv 1) (pa_cons (pe_bltn (v := .ty "tuple") (by rfl) T.n_tuple (by decide +kernel) rfl) pa_nil)))) (pss_cons (ps_if (PW.pt (pw_or (pt_not (pt_val (pe_callB call_isi (by rfl) T.n_isinstance (by decide +kernel) (pa_cons (pv 0) (pa_cons (pe_bltn (v := .ty "tuple") (by rfl) T.n_tuple (by decide +kernel) rfl) pa_nil))))) (pw_or1 (pt_cmpR op_ne (pe_callB call_len (by rfl) T.n_len PySem.boot_len (pa_cons (pv 0) pa_nil)) (pe_callB call_len (by rfl) T.n_len PySem.boot_len (pa_cons (pv 1) pa_nil)) (nomark _))))) (pss_one (ps_ret pe_bl)) pss_nil)
      (pss_cons (ps_for PassesOwn.never rfl (pi_range1 (by rfl) T.n_range (pa_cons (pe_callB call_len (by rfl) T.n_len PySem.boot_len (pa_cons (pv 1) pa_nil)) pa_nil)) (pg_name (i := 2) sc_law_exact.nd rfl (.inl rfl)) (pss_one (ps_if (pt_not (pt_val (pe_call G_law_exact hr (by rfl) T.D_law_exact.G T.D_law_exact.F.kp T.D_law_exact.B .nil pass0 (pa_cons (pe_ix ix_seq (pv 0) (pv 2) (fun _ _ => rfl)) (pa_cons (pe_ix ix_seq (pv 1) (pv 2) (fun _ _ => rfl)) pa_nil))))) (pss_one (ps_ret pe_bl)) pss_nil)))
      (pss_one (ps_ret pe_bl)))) pss_nil)
      (pss_cons (ps_if (pt_cmpR op_isN (pv 1) pe_non (nomark _)) (pss_one (ps_ret (pe_cmpR op_isN (pv 0) pe_non (nomark _)))) pss_nil)
      (pss_cons (ps_if (pt_val (pe_callB call_isi (by rfl) T.n_isinstance (by decide +kernel) (pa_cons (pv 1) (pa_cons (pe_bltn (v := .ty "bool") (by rfl) T.n_bool (by decide +kernel) rfl) pa_nil)))) (pss_one (ps_ret (pe_and (pe_callB call_isi (by rfl) T.n_isinstance (by decide +kernel) (pa_cons (pv 0) (pa_cons (pe_bltn (v := .ty "bool") (by rfl) T.n_bool (by decide +kernel) rfl) pa_nil))) (pe_one (pe_cmpR op_eq (pv 0) (pv 1) (nomark _)))))) pss_nil)
      (pss_cons (ps_if (pt_val (pe_callB call_isi (by rfl) T.n_isinstance (by decide +kernel) (pa_cons (pv 1) (pa_cons (pe_bltn (v := .ty "int") (by rfl) T.n_int (by decide +kernel) rfl) pa_nil)))) (pss_one (ps_ret (pe_and (pe_callB call_isi (by rfl) T.n_isinstance (by decide +kernel) (pa_cons (pv 0) (pa_cons (pe_bltn (v := .ty "int") (by rfl) T.n_int (by decide +kernel) rfl) pa_nil))) (pe_and (pe_not (pe_callB call_isi (by rfl) T.n_isinstance (by decide +kernel) (pa_cons (pv 0) (pa_cons (pe_bltn (v := .ty "bool") (by rfl) T.n_bool (by decide +kernel) rfl) pa_nil)))) (pe_one (pe_cmpR op_eq (pv 0) (pv 1) (nomark _))))))) pss_nil)
      (pss_one (ps_ret (pe_and (pe_callB call_isi (by rfl) T.n_isinstance (by decide +kernel) (pa_cons (pv 0) (pa_cons (pe_bltn (v := .ty "str") (by rfl) T.n_str (by decide +kernel) rfl) pa_nil))) (pe_one (pe_cmpR op_eq (pv 0) (pv 1) (nomark _)))))))))), ?_⟩
    refine ⟨_, rfl, _, _, .type "bool", .type "tuple", false, rfl, .ty _, .base (.bl _), kit_ty (by decide +kernel), _, rfl, ?_⟩
    refine ⟨_, rfl, rfl, false, bl_of (decide_eq_false (fun e => by cases e)), ?_⟩
    refine ⟨_, rfl, _, _, .type "bool", .type "bool", true, rfl, .ty _, .base (.bl _), kit_ty (by decide +kernel), _, rfl, ?_⟩
    exact ⟨_, rfl, _, _, .type "bool", .type "bool", true, rfl, .ty _, .base (.bl _), kit_ty (by decide +kernel), true, rfl, _, rfl, _, rfl, rfl, eq_self q⟩
def spExactE : Sp := fun vs H Q E => spExact 2 vs H Q E ∨ spExactB vs H Q E
theorem ok_exactE (T : Txt K mg) : FnOk P w K mg base CX0 3 T.a_law_exact T.d_law_exact ["_law_told", "_law_due"] spExactE := fnOr (ok_exact T 2) ((ok_exactB T).mono (by decide))
end
end Vf

set_option Elab.async false
set_option linter.all false
set_option maxRecDepth 100000
set_option maxHeartbeats 4000000
namespace Vf
open PySem PySem.Spec PyProof.Rows L2 TL
theorem catA_any {K : PySem.W.Frag} {H : Hp} {a b : Addr} {xs ys : List V} {Q : VK} (ea : H a = some (.tup xs)) (eb : H b = some (.tup ys)) (hz : xs.length + ys.length ≤ sizeLine) (q : ∀ c H', Same H H' → H' c = some (.tup (xs ++ ys)) → Q (.ref c) H') : rCatA K (.ref a) (.ref b) H Q :=
  ⟨a, b, xs, ys, rfl, rfl, SqT.of ea, SqT.of eb, hz, fun z => q b H (Same.refl H) (by rw [z]; exact eb), fun _ z => q a H (Same.refl H) (by rw [z, List.append_nil]; exact ea), fun _ _ p np => q p _ (same_upd (Same.refl H) np) upd_same⟩
theorem cut_ints (is : List Int) (lo hi : Option Int) : ∃ js : List Int, cutV (is.map V.int) lo hi = js.map V.int ∧ js.length ≤ is.length := by
  refine ⟨(is.drop (HT.sIx is.length 0 lo)).take (HT.sIx is.length is.length hi - HT.sIx is.length 0 lo), ?_, ?_⟩
  · unfold cutV
    rw [List.length_map, List.map_take, List.map_drop]
  · rw [List.length_take, List.length_drop]; omega
def isI : V → Bool
  | .int _ => true
  | _ => false
theorem isI_of {v : V} (h : isI v = true) : ∃ i, v = .int i := by
  cases v with
  | int i => exact ⟨i, rfl⟩
  | _ => cases h
/-- a tuple of ints, not too long -/
def ItV (m : Nat) (H : Hp) (u : V) : Prop := ∃ js : List Int, IsR H u js ∧ js.length ≤ m
theorem ItV.to {m : Nat} {H H' : Hp} {u : V} (h : ItV m H u) (k : TK H H') : ItV m H' u := by
  obtain ⟨js, a, b⟩ := h
  exact ⟨js, IsR.mn.to a k, b⟩
section
variable {P : Program} {w : World} {K : PySem.W.Frag} {mg : Str → Option Value} {base : Heap}
def spPAsk : Sp := fun vs H Q _ => ∃ (sc v pvv : V) (p : Addr) (n L : Nat) (F C : List (List Nat)) (W : List Wt) (D : List (List PyData)) (VV : Nat → Nat → Nat) (is : List Int) (paper : List (List Int)), vs = [sc, v, .ref p, pvv] ∧ ScR H sc F C W ∧ ScOk n F C W ∧ VwR H v D ∧ VwOk n L D ∧ 1 ≤ n ∧ L ≤ 100 ∧ Lvs n L (eqs D) VV ∧ H p = some (.tup (is.map V.int)) ∧ is.length ≤ 1000 ∧ TupR IsR H pvv paper ∧ paper.length ≤ 1000 ∧ (∀ r ∈ paper, r.length ≤ 100) ∧
  ∀ H', Same H H' → Q (.bl true) H'
theorem ok_pask (T : Txt K mg) : FnOk P w K mg base CX0 5 T.a_law_plan_asked T.d_law_plan_asked ["_law_scene", "_law_views", "_law_plan", "_law_paper"] spPAsk := by
  have G_judge_plan : FnOk P w K mg base CX0 4 T.a_judge_plan T.d_judge_plan ["scene", "views", "plan", "paper"] spJudge := ok_judge T
  have G_law_plan_takes : FnOk P w K mg base CX0 3 T.a_law_plan_takes T.d_law_plan_takes ["_law_scene", "_law_views", "_law_plan", "_law_paper"] spTakes := ok_takes T
  have G_law_exact : FnOk P w K mg base CX0 2 T.a_law_exact T.d_law_exact ["_law_told", "_law_due"] spExactB := ok_exactB T
  refine T.D_law_plan_asked.F.ok sc_law_plan_asked (fun vs H Q E h => ?_) (fun cdv A outer s H vs Q E hr h => ?_)
  · obtain ⟨sc, v, pvv, p, n, L, F, C, W, D, VV, is, paper, rfl, _⟩ := h
    rfl
  · obtain ⟨sc, v, pvv, p, n, L, F, C, W, D, VV, is, paper, rfl, hsc, osc, hv, o, n1, L100, lvs, ep, lis, hpp, lpp, lrr, q⟩ := h
    refine ⟨_, (pss_one (ps_ret (pe_call G_law_exact (hr.mono (by decide)) (by rfl) T.D_law_exact.G T.D_law_exact.F.kp T.D_law_exact.B .nil pass0 (pa_cons (pe_call G_judge_plan (hr.mono (by decide)) (by rfl) T.D_judge_plan.G T.D_judge_plan.F.kp T.D_judge_plan.B .nil pass0 (pa_cons (pv 0) (pa_cons (pv 1) (pa_cons (pv 2) (pa_cons (pv 3) pa_nil))))) (pa_cons (pe_call G_law_plan_takes (hr.mono (by decide)) (by rfl) T.D_law_plan_takes.G T.D_law_plan_takes.F.kp T.D_law_plan_takes.B .nil pass0 (pa_cons (pv 0) (pa_cons (pv 1) (pa_cons (pv 2) (pa_cons (pv 3) pa_nil))))) pa_nil))))), ?_⟩
    refine ⟨_, rfl, _, rfl, _, rfl, _, rfl, sc, v, pvv, p, n, L, F, C, W, D, is, paper, rfl, hsc, osc, hv, o, n1, L100, fun lv k hl hk => by rw [clsOf_cl lvs hl hk, cl_mem]; exact ⟨hk, rfl⟩, ep, lis, hpp, lpp, lrr, fun H1 k1 => ?_⟩
    refine ⟨_, rfl, _, rfl, _, rfl, _, rfl, sc, v, pvv, p, n, L, F, C, W, D, VV, is, paper, rfl, hsc.mn (TK.same k1), osc, VwR.mn.to hv (TK.same k1), o, n1, L100, lvs, k1 _ _ ep, lis, (TupR.mn IsR.mn).to hpp (TK.same k1), lpp, lrr, fun H2 k2 => ?_⟩
    exact ⟨_, rfl, q H2 (k1.trans k2)⟩
def spNumL : Sp := fun vs H Q _ => ∃ (m n L : Nat), vs = [nV m, nV n, nV L] ∧ 1 ≤ L ∧ L ≤ 100 ∧ n ≤ 100 ∧ ∀ H' a (pl : List Nat), Same H H' → H' a = some (.lst (pl.map nV)) → pl.length = n → (∀ x ∈ pl, x < L) → Q (.ref a) H'
theorem ok_numL (T : Txt K mg) : FnOk P w K mg base CX0 1 T.a_law_plan_number T.d_law_plan_number ["_law_number", "_law_n", "_law_levels"] spNumL := by
  refine T.D_law_plan_number.F.ok sc_law_plan_number (fun vs H Q E h => ?_) (fun cdv A outer s H vs Q E hr h => ?_)
  · obtain ⟨m, n, L, rfl, _⟩ := h
    rfl
  · obtain ⟨m, n, L, rfl, L1, L100, n100, q⟩ := h
    refine ⟨_, (pss_cons (ps_set (i := 3) sc_law_plan_number.nd rfl (.inl rfl) (pe_lst pa_nil))
      (pss_cons (ps_for PassesOwn.never rfl (pi_range1 (by rfl) T.n_range (pa_cons (pv 1) pa_nil)) (pg_name (i := 4) sc_law_plan_number.nd rfl (.inl rfl)) (pss_cons (ps_expr (pe_bm PySem.F.plainAttrs_list PySem.F.slot_list_append PySem.F.type_list_append mt_append (pv 3) (pa_cons (pe_op op_modN (pe_callTy call_int1 (by rfl) T.n_int (by decide +kernel) (pa_cons (pv 0) pa_nil)) (pv 2)) pa_nil)))
      (pss_one (ps_set (i := 0) sc_law_plan_number.nd rfl (.inl rfl) (pe_op op_fdivN (pv 0) (pv 2))))))
      (pss_one (ps_ret (pv 3))))), ?_⟩
    refine ⟨by show 0 ≤ sizeLine; decide, fun A nA => ?_⟩
    refine ⟨_, rfl, (n : Int), rfl, by omega, by omega, ?_⟩
    rw [toNat_k]
    refine for_it walk_range (fun j σ' H' => ∃ (x4 : Option V) (ds : List Nat) (lf : Nat), σ' = [some (nV lf), some (nV n), some (nV L), some (.ref A), x4] ∧ Same H H' ∧ H' A = some (.lst (ds.map nV)) ∧ ds.length = j ∧ ∀ x ∈ ds, x < L) ⟨_, [], m, rfl, same_upd (Same.refl H) nA, upd_same, rfl, fun _ h => nomatch h⟩ (fun _ _ _ _ _ => trivial) ?_ ?_
    · rintro j x σ' H14 H15 hj ⟨x4, ds, lf2, rfl, k14, eA, lds, hds⟩ ⟨rfl, hx⟩
      refine ⟨.ref A, rfl, .inl ⟨rfl, _, .inl (.inl eA)⟩, ?_⟩
      refine ⟨_, rfl, .inl ⟨_, rfl, _, rfl, _, _, rfl, rfl, by omega, ?_⟩⟩
      have hv : V.int ((lf2 : Int).fmod (L : Int)) = nV (lf2 % L) := fmod_nV _ _
      have hg : lf2 % L < L := Nat.mod_lt _ (by omega)
      generalize lf2 % L = g at hv hg
      refine ⟨A, _, _, rfl, rfl, eA, szN (by rw [List.length_map]; omega), ?_⟩
      refine ⟨_, rfl, _, rfl, _, _, rfl, rfl, ⟨by omega, by omega⟩, ?_⟩
      refine ⟨some x, ds ++ [g], lf2 / L, ?_, same_mut k14 nA, by rw [upd_same, List.map_append, List.map_cons, List.map_nil, ← hv], by rw [List.length_append, lds]; rfl, fun x hx => ?_⟩
      · rw [← fdiv_nV]; rfl
      · rcases List.mem_append.mp hx with h | h
        · exact hds x h
        · rw [List.mem_singleton.mp h]; exact hg
    · rintro σ' H14 ⟨x4, ds, lf2, rfl, k14, eA, lds, hds⟩
      exact ⟨_, rfl, q _ _ ds k14 eA lds hds⟩
def spBad : Sp := fun vs H Q _ => ∃ (d l : Addr) (r m : Int), vs = [.ref d, .int r, .int m] ∧ DI d l H ∧ ∀ H' i, Kp d H H' → DI d l H' → Q (.int i) H'
theorem ok_bad (T : Txt K mg) : FnOk P w K mg base CX0 3 T.a_law_plan_bad T.d_law_plan_bad ["_law_d", "_law_right", "_law_many"] spBad := by
  have G_law_pick : FnOk P w K mg base CX0 2 T.a_law_pick T.d_law_pick ["_law_d", "_law_row"] (spPick K) := ok_pick T
  refine T.D_law_plan_bad.F.ok sc_law_plan_bad (fun vs H Q E h => ?_) (fun cdv A outer s H vs Q E hr h => ?_)
  · obtain ⟨d, l, r, m, rfl, _⟩ := h
    rfl
  · obtain ⟨d, l, r, m, rfl, hD, q⟩ := h
    refine ⟨_, (pss_one (ps_ret (pe_call G_law_pick (hr.mono (by decide)) (by rfl) T.D_law_pick.G T.D_law_pick.F.kp T.D_law_pick.B .nil pass0 (pa_cons (pv 0) (pa_cons (pe_lst (pa_cons (pe_op op_add (pv 1) pe_int) (pa_cons (pe_op op_sub (pv 1) (pv 2)) (pa_cons (pe_op op_sub (pv 1) pe_int) (pa_cons (pe_un un_neg pe_int) (pa_cons (pv 2) (pa_cons pe_int (pa_cons pe_int (pa_cons (pe_un un_neg pe_int) pa_nil))))))))) pa_nil))))), ?_⟩
    refine ⟨_, rfl, _, rfl, _, _, rfl, rfl, _, rfl, _, rfl, _, _, rfl, rfl, _, rfl, _, _, rfl, rfl, _, rfl, _, rfl, _, rfl, by show 8 ≤ sizeLine; decide, fun M nM => ?_⟩
    refine ⟨d, l, .ref M, _, rfl, hD.new nM, .inl ⟨M, rfl, (hD.nd nM).1, SqL.of upd_same⟩, Nat.succ_pos _, by show 8 ≤ 1000; decide, fun H4 v k4 D4 hv => ?_⟩
    obtain ⟨i, rfl⟩ := isI_of (List.all_eq_true.mp (show List.all _ isI = true from rfl) v hv)
    exact q H4 i (((Kp.refl d H).new nM).trans k4) D4
def spBent : Sp := fun vs H Q _ => ∃ (d l p : Addr) (L : Nat) (is : List Int), vs = [.ref d, .ref p, nV L] ∧ DI d l H ∧ H p = some (.tup (is.map V.int)) ∧ is.length ≤ 24 ∧
  ∀ H' a us, Kp d H H' → DI d l H' → a ≠ d → H' a = some (.lst us) → us.length ≤ 100 → (∀ u ∈ us, ItV 100 H' u) → Q (.ref a) H'
theorem ok_bent (T : Txt K mg) : FnOk P w K mg base CX0 4 T.a_law_plan_bent T.d_law_plan_bent ["_law_d", "_law_plan", "_law_levels"] spBent := by
  have G_law_plan_bad : FnOk P w K mg base CX0 3 T.a_law_plan_bad T.d_law_plan_bad ["_law_d", "_law_right", "_law_many"] spBad := ok_bad T
  refine T.D_law_plan_bent.F.ok sc_law_plan_bent (fun vs H Q E h => ?_) (fun cdv A outer s H vs Q E hr h => ?_)
  · obtain ⟨d, l, p, L, is, rfl, _⟩ := h
    rfl
  · obtain ⟨d, l, p, L, is, rfl, hD, ep, lis, q⟩ := h
    refine ⟨_, (pss_cons (ps_set (i := 3) sc_law_plan_bent.nd rfl (.inl rfl) (pe_lst (pa_cons (pe_slice sl_tupA (pv 1) po_none (po_some (pe_un un_neg pe_int))) (pa_cons (pe_op op_catA (pv 1) (pe_tup (pa_cons pe_int pa_nil))) (pa_cons (pe_op op_catA (pv 1) (pv 1)) (pa_cons (pe_tup pa_nil) (pa_cons (pe_callTy call_tuple_of (by rfl) T.n_tuple (by decide +kernel) (pa_cons (pe_lc (own := [("_law_level", 5)]) (g := gName 5) (tt := tYes) rfl sc_law_plan_bent.nd (pi_tup (pv 1)) (blkOk_by (own := [("_law_level", 5)]) (N := ["_law_d", "_law_plan", "_law_levels", "_law_found", "_law_k", "_law_level"]) (sc := (defScope s_law_plan_bent)) (by decide +kernel)) (fun _ _ _ _ _ => (pg_name (i := 5) sc_law_plan_bent.nd rfl (.inl rfl))) (fun _ _ _ _ _ => pts_nil) (fun _ _ _ _ _ => (pe_op op_sub (pv 5) (pv 2)))) pa_nil)) pa_nil)))))))
      (pss_cons (ps_for PassesOwn.never rfl (pi_range1 (by rfl) T.n_range (pa_cons (pe_callB call_len_seq (by rfl) T.n_len PySem.boot_len (pa_cons (pv 1) pa_nil)) pa_nil)) (pg_name (i := 4) sc_law_plan_bent.nd rfl (.inl rfl)) (pss_one (ps_expr (pe_bm PySem.F.plainAttrs_list PySem.F.slot_list_append PySem.F.type_list_append mt_append (pv 3) (pa_cons (pe_op op_catA (pe_op op_catA (pe_slice sl_tupA (pv 1) po_none (po_some (pv 4))) (pe_tup (pa_cons (pe_call G_law_plan_bad (hr.mono (by decide)) (by rfl) T.D_law_plan_bad.G T.D_law_plan_bad.F.kp T.D_law_plan_bad.B .nil pass0 (pa_cons (pv 0) (pa_cons (pe_ix ix_tup (pv 1) (pv 4) (fun _ _ => rfl)) (pa_cons (pv 2) pa_nil)))) pa_nil))) (pe_slice sl_tupA (pv 1) (po_some (pe_op op_add (pv 4) pe_int)) po_none)) pa_nil)))))
      (pss_one (ps_ret (pv 3))))), ?_⟩
    have big : ∀ m, m ≤ 90000 → m ≤ sizeLine := fun m h => Nat.le_of_lt (szN (by omega))
    refine ⟨_, rfl, _, rfl, _, rfl, slA_any ep fun b1 H1 k1 e1 => ?_⟩
    obtain ⟨j1, ej1, lj1⟩ := cut_ints is none (some (-1))
    have e1 : H1 b1 = some (.tup (j1.map V.int)) := by rw [← ej1]; exact e1
    have ep1 := k1 _ _ ep
    refine ⟨_, rfl, by show 1 ≤ sizeLine; decide, fun t2 n2 => ?_⟩
    have k2 := same_upd (o := .tup [.int 0]) k1 n2
    have et2 : upd H1 t2 (.tup [.int 0]) t2 = some (.tup ([(0 : Int)].map V.int)) := upd_same
    have ep2 := same_upd (o := .tup [.int 0]) (Same.refl H1) n2 _ _ ep1
    have e1 := same_upd (o := .tup [.int 0]) (Same.refl H1) n2 _ _ e1
    generalize upd H1 t2 (.tup [.int 0]) = H2 at k2 et2 ep2 e1
    refine catA_any ep2 et2 (big _ (by rw [List.length_map]; show is.length + 1 ≤ _; omega)) fun b2 H3 k3 e2 => ?_
    rw [← List.map_append] at e2
    have e1 := k3 _ _ e1
    have ep3 := k3 _ _ ep2
    refine ⟨_, rfl, _, rfl, catA_any ep3 ep3 (big _ (by rw [List.length_map]; omega)) fun b3 H4 k4 e3 => ?_⟩
    rw [← List.map_append] at e3
    have e1 := k4 _ _ e1
    have e2 := k4 _ _ e2
    have ep4 := k4 _ _ ep3
    have k04 := k2.trans (k3.trans k4)
    refine ⟨by show 0 ≤ sizeLine; decide, fun t5 n5 => ?_⟩
    have k05 := same_upd (o := .tup []) k04 n5
    have et5 : upd H4 t5 (.tup []) t5 = some (.tup (([] : List Int).map V.int)) := upd_same
    have s5 := same_upd (o := .tup []) (Same.refl H4) n5
    have ep5 := s5 _ _ ep4
    have e1 := s5 _ _ e1
    have e2 := s5 _ _ e2
    have e3 := s5 _ _ e3
    generalize upd H4 t5 (.tup []) = H5 at k05 et5 ep5 e1 e2 e3
    refine ⟨_, rfl, p, rfl, ⟨_, SqT.of ep5⟩, fun D2 nD2 => ?_⟩
    refine lc_it (walk_tup (K := K) (a := p) (xs := is.map V.int)) (fun i H' => H' D2 = some (.lst (((is.take i).map fun x => x - (L : Int)).map V.int)) ∧ Same H5 H') ⟨upd_same, same_upd (Same.refl H5) nD2⟩ ?_ ?_ ?_
    · rintro i H' _ ⟨_, k⟩
      exact SqT.of (k _ _ ep5)
    · rintro i x H6 H7 hi ⟨eD, k6⟩ ⟨rfl, hx⟩
      rw [List.getElem?_map] at hx
      obtain ⟨y, hy, e⟩ := Option.map_eq_some_iff.mp hx
      subst e
      have es : (is.take (i + 1)).map (fun x => x - (L : Int)) = (is.take i).map (fun x => x - (L : Int)) ++ [y - (L : Int)] := by rw [take_one hy, List.map_append]; rfl
      rw [es, List.map_append]
      refine ⟨rfl, ?_⟩
      refine ⟨_, rfl, _, rfl, _, _, rfl, rfl, ?_⟩
      exact ⟨_, eD, szN (by rw [List.length_map, List.length_map, List.length_take]; omega), by rw [upd_same]; rfl, same_mut k6 nD2⟩
    · rintro H6 ⟨eD, k6⟩
      rw [List.length_map, List.take_length] at eD
      refine ⟨D2, _, rfl, .inl ⟨SqL.of eD, fun t7 n7 => ?_⟩⟩
      have s7 := same_upd (o := .tup ((is.map fun x => x - (L : Int)).map V.int)) k6 n7
      have et7 : upd H6 t7 (.tup ((is.map fun x => x - (L : Int)).map V.int)) t7 = some (.tup ((is.map fun x => x - (L : Int)).map V.int)) := upd_same
      generalize upd H6 t7 (.tup ((is.map fun x => x - (L : Int)).map V.int)) = H7 at s7 et7
      have ep7 := s7 _ _ ep5
      have e1 := s7 _ _ e1
      have e2 := s7 _ _ e2
      have e3 := s7 _ _ e3
      have e5 := s7 _ _ et5
      have k07 := k05.trans s7
      refine ⟨by show 5 ≤ sizeLine; decide, fun A nA => ?_⟩
      have D7 := hD.keep k07
      have nAd := D7.nd nA
      have tkA : TK H7 (upd H7 A (.lst [.ref b1, .ref b2, .ref b3, .ref t5, .ref t7])) := TK.new (TK.refl _) nA
      have i0 : ∀ u ∈ [V.ref b1, .ref b2, .ref b3, .ref t5, .ref t7], ItV 100 (upd H7 A (.lst [.ref b1, .ref b2, .ref b3, .ref t5, .ref t7])) u := fun u hu => by
        refine ItV.to ?_ tkA
        simp only [List.mem_cons, List.not_mem_nil, or_false] at hu
        rcases hu with rfl | rfl | rfl | rfl | rfl
        · exact ⟨j1, ⟨_, rfl, e1⟩, by omega⟩
        · exact ⟨_, ⟨_, rfl, e2⟩, by rw [List.length_append]; show is.length + 1 ≤ _; omega⟩
        · exact ⟨_, ⟨_, rfl, e3⟩, by rw [List.length_append]; omega⟩
        · exact ⟨_, ⟨_, rfl, e5⟩, Nat.zero_le _⟩
        · exact ⟨_, ⟨_, rfl, et7⟩, by rw [List.length_map]; omega⟩
      have k8 : Kp d H (upd H7 A (.lst [.ref b1, .ref b2, .ref b3, .ref t5, .ref t7])) := (Kp.of_same k07).new nA
      have D8 := D7.new (o := .lst [.ref b1, .ref b2, .ref b3, .ref t5, .ref t7]) nA
      have eA8 : upd H7 A (.lst [.ref b1, .ref b2, .ref b3, .ref t5, .ref t7]) A = some (.lst [.ref b1, .ref b2, .ref b3, .ref t5, .ref t7]) := upd_same
      have ep8 := tkA _ _ ep7
      have nAH : H A = none := none_same k07 nA
      generalize upd H7 A (.lst [.ref b1, .ref b2, .ref b3, .ref t5, .ref t7]) = H8 at i0 k8 D8 eA8 ep8
      refine ⟨_, rfl, p, _, rfl, .inr (SqT.of ep8), (is.length : Int), by rw [List.length_map], by omega, by omega, ?_⟩
      rw [toNat_k]
      refine for_it walk_range (fun i σ' H' => ∃ (us : List V) (x4 x5 : Option V), σ' = [some (.ref d), some (.ref p), some (nV L), some (.ref A), x4, x5] ∧ Kp d H H' ∧ DI d l H' ∧ H' A = some (.lst us) ∧ us.length ≤ 5 + i ∧ ∀ u ∈ us, ItV 100 H' u) ⟨_, none, none, rfl, k8, D8, eA8, by show 5 ≤ 5 + 0; omega, i0⟩ (fun _ _ _ _ _ => trivial) ?_ ?_
      · rintro k x σ' H9 H10 hk ⟨us, x4, x5, rfl, k9, D9, eA9, lus, hus⟩ ⟨rfl, hx⟩
        have hx : x = nV k := by rw [hx]; exact int0 k
        subst hx
        have ep9 := kpTup hD k9 _ _ ep
        have gk : atI (is.map V.int) (k : Int) = some (.int is[k]) := atI_nat (by rw [List.getElem?_map, List.getElem?_eq_getElem hk]; rfl)
        refine ⟨.ref A, rfl, .inl ⟨rfl, _, .inl (.inl eA9)⟩, ?_⟩
        refine ⟨_, rfl, _, rfl, _, rfl, slA_any ep9 fun c1 H11 k11 ec1 => ?_⟩
        obtain ⟨g1, eg1, lg1⟩ := cut_ints is none (some (k : Int))
        have ec1 : H11 c1 = some (.tup (g1.map V.int)) := by rw [← eg1]; exact ec1
        have D11 := D9.keep k11
        have ep11 := k11 _ _ ep9
        refine ⟨_, rfl, _, rfl, _, rfl, p, _, _, _, rfl, rfl, SqT.of ep11, gk, _, rfl, d, l, is[k], (L : Int), rfl, D11, fun H12 y k12 D12 => ?_⟩
        have ec1 := kpTup D11 k12 _ _ ec1
        have ep12 := kpTup D11 k12 _ _ ep11
        refine ⟨by show 1 ≤ sizeLine; decide, fun t n => ?_⟩
        have s13 := same_upd (o := .tup [.int y]) (Same.refl H12) n
        have et13 : upd H12 t (.tup [.int y]) t = some (.tup ([y].map V.int)) := upd_same
        have D13 := D12.keep s13
        have k13 : Kp d H (upd H12 t (.tup [.int y])) := (k9.trans ((Kp.of_same k11).trans k12)).new n
        have ec1 := s13 _ _ ec1
        have ep13 := s13 _ _ ep12
        generalize upd H12 t (.tup [.int y]) = H13 at s13 et13 D13 k13 ec1 ep13
        refine catA_any ec1 et13 (big _ (by rw [List.length_map]; show g1.length + 1 ≤ _; omega)) fun c2 H14 k14 ec2 => ?_
        rw [← List.map_append] at ec2
        have ep14 := k14 _ _ ep13
        refine ⟨_, rfl, _, rfl, _, _, rfl, rfl, _, rfl, slA_from ep14 fun c3 H15 k15 ec3 => ?_⟩
        obtain ⟨g3, eg3, lg3⟩ := cut_ints is (some ((k : Int) + 1)) none
        have ec3 : H15 c3 = some (.tup (g3.map V.int)) := by rw [← eg3]; exact ec3
        have ec2 := k15 _ _ ec2
        refine catA_any ec2 ec3 (big _ (by rw [List.length_map, List.length_map, List.length_append]; show g1.length + 1 + g3.length ≤ _; omega)) fun c4 H16 k16 ec4 => ?_
        rw [← List.map_append] at ec4
        have k1316 := (k14.trans (k15.trans k16))
        have kAll : Kp d H H16 := k13.trans (Kp.of_same k1316)
        have D16 := D13.keep k1316
        have eA16 : H16 A = some (.lst us) := k1316 _ _ (s13 _ _ (k12 _ _ nAd.1 (k11 _ _ eA9)))
        have tk916 : TK H10 H16 := ((TK.same k11).trans (kpTup D11 k12)).trans ((TK.same s13).trans (TK.same k1316))
        refine ⟨A, us, _, rfl, rfl, eA16, szN (by omega), ?_⟩
        have tkm : TK H16 (upd H16 A (.lst (us ++ [.ref c4]))) := TK.mut (TK.refl _) eA16
        refine ⟨us ++ [.ref c4], _, _, rfl, kAll.mut nAH, D16.at nAd.1 nAd.2, upd_same, by rw [List.length_append]; show us.length + 1 ≤ _; omega, fun u hu => ?_⟩
        rcases List.mem_append.mp hu with h | h
        · exact (hus u h).to (tk916.trans tkm)
        · rw [List.mem_singleton.mp h]
          refine ItV.to ⟨_, ⟨_, rfl, ec4⟩, ?_⟩ tkm
          rw [List.length_append, List.length_append]
          show g1.length + 1 + g3.length ≤ 100
          omega
      · rintro σ' H9 ⟨us, x4, x5, rfl, k9, D9, eA9, lus, hus⟩
        exact ⟨_, rfl, q _ A us k9 D9 nAd.1 eA9 (by omega) hus⟩
end
end Vf

set_option Elab.async false
set_option linter.all false
set_option maxRecDepth 100000
set_option maxHeartbeats 4000000
namespace Vf
open PySem PySem.Spec PyProof.Rows L2 TL
/-! ### papers of any plan -/
theorem all_LV {α : Type} {R : V → α → Prop} {P : α → Prop} : ∀ us : List V, (∀ x ∈ us, ∃ r, R x r ∧ P r) → ∃ rs, LV R us rs ∧ ∀ r ∈ rs, P r := by
  refine list_snoc (p := fun us => (∀ x ∈ us, ∃ r, R x r ∧ P r) → ∃ rs, LV R us rs ∧ ∀ r ∈ rs, P r) (fun _ => ⟨[], LV.nil, fun _ h => nomatch h⟩) (fun us x ih h => ?_)
  obtain ⟨rs, lv, hp⟩ := ih fun y hy => h y (List.mem_append_left _ hy)
  obtain ⟨r, hr, pr⟩ := h x (List.mem_append_right _ (List.mem_singleton.mpr rfl))
  refine ⟨rs ++ [r], lv.snoc hr, fun z hz => ?_⟩
  rcases List.mem_append.mp hz with e | e
  · exact hp z e
  · rw [List.mem_singleton.mp e]; exact pr
theorem cut_one (xs : List V) : cutV xs none (some 1) = xs.take 1 := by
  unfold cutV
  rw [HT.sIx_none, show (some (1 : Int)) = some ((1 : Nat) : Int) from rfl, HT.sIx_nat, List.drop_zero, Nat.sub_zero]
  cases xs with
  | nil => rfl
  | cons x r => rw [Nat.min_eq_left (by rw [List.length_cons]; omega)]
theorem flatMap_le {α β : Type} {f : α → List β} {b : Nat} : ∀ {l : List α}, (∀ x ∈ l, (f x).length ≤ b) → (l.flatMap f).length ≤ l.length * b
  | [], _ => Nat.zero_le _
  | x :: l, h => by
    rw [List.flatMap_cons, List.length_append, List.length_cons, Nat.add_mul]
    have h1 := h x List.mem_cons_self
    have h2 := flatMap_le (l := l) fun y hy => h y (List.mem_cons_of_mem _ hy)
    omega
theorem rows_bound {n : Nat} {F C : List (List Nat)} {W : List Wt} (o : ScOk n F C W) {low : Nat → List Nat} {ms : List Nat} (hms : ∀ k ∈ ms, k < n) (h24 : ms.length ≤ 24) : (rowsL F C W low ms).length ≤ 1000 := by
  have h : (rowsL F C W low ms).length ≤ ms.length * 30 := by
    refine flatMap_le fun k hk => ?_
    rw [List.length_map]
    have wl := o.wl
    have : (lacksL F C W (low k) k).length ≤ (List.range W.length).length * 6 := flatMap_le fun w hw => by
      have hw := List.mem_range.mp hw
      have wo := o.wk (wtAt W w) (getD_mem (xs := W) (d := ([], [])) hw)
      have ro := wo.rl _ (getD_mem (d := []) (wo.gb k (hms k hk)))
      unfold lackW
      rw [List.length_map]
      exact Nat.le_trans (List.length_filter_le _ _) ro.1
    rw [List.length_range] at this
    omega
  omega
theorem rows3 {F C : List (List Nat)} {W : List Wt} {low : Nat → List Nat} {ms : List Nat} : ∀ y ∈ rowsL F C W low ms, y.length = 3 := fun y hy => by
  obtain ⟨k, _, hy⟩ := List.mem_flatMap.mp hy
  obtain ⟨x, hx, rfl⟩ := List.mem_map.mp hy
  obtain ⟨w, _, hx⟩ := List.mem_flatMap.mp hx
  obtain ⟨p, _, rfl⟩ := List.mem_map.mp hx
  rfl
def R3 (H : Hp) (v : V) : Prop := ∃ r : List Nat, NsR H v r ∧ r.length = 3
theorem R3.to {H H' : Hp} {v : V} (h : R3 H v) (k : TK H H') : R3 H' v := by
  obtain ⟨r, a, b⟩ := h
  exact ⟨r, NsR.mn.to a k, b⟩
/-- a paper: a tuple of rows of three numbers -/
def PpV (H : Hp) (u : V) : Prop := ∃ a us, u = .ref a ∧ H a = some (.tup us) ∧ us.length ≤ 24 ∧ ∀ x ∈ us, R3 H x
theorem PpV.to {H H' : Hp} {u : V} (h : PpV H u) (k : TK H H') : PpV H' u := by
  obtain ⟨a, us, e, e1, l, h⟩ := h
  exact ⟨a, us, e, k _ _ e1, l, fun x hx => (h x hx).to k⟩
def Kx (x y : Addr) (H H' : Hp) : Prop := ∀ b o, b ≠ x → b ≠ y → H b = some o → H' b = some o
section
variable {P : Program} {w : World} {K : PySem.W.Frag} {mg : Str → Option Value} {base : Heap}
def spLPubW : Sp := fun vs H Q _ => ∃ (v plv : V) (n L : Nat) (D : List (List PyData)) (pl : List Nat), vs = [v, plv] ∧ VwR H v D ∧ VwOk n L D ∧ NsR H plv pl ∧ pl.length = n ∧ (∀ x ∈ pl, x < L) ∧ n ≤ 24 ∧ (∀ lv k, lv < L → k < n → k ∈ clsOf D n lv k) ∧
  ∀ H' A us MS, Same H H' → H A = none → H' A = some (.lst us) → LV (LsF H A H') us MS → MS.length ≤ n → (∀ ms ∈ MS, ms ≠ [] ∧ ms.length ≤ n ∧ ∀ k ∈ ms, k < n) → Q (.ref A) H'
theorem ok_lpubW (T : Txt K mg) : FnOk P w K mg base CX0 1 T.a_law_published T.d_law_published ["_law_views", "_law_plan"] spLPubW := by
  refine T.D_law_published.F.ok sc_law_published (fun vs H Q E h => ?_) (fun cdv A outer s H vs Q E hr h => ?_)
  · obtain ⟨v, plv, n, L, D, pl, rfl, _⟩ := h
    rfl
  · obtain ⟨v, plv, n, L, D, pl, rfl, hv, o, ⟨pa, rfl, epa⟩, lpl, hpl, n24, hcl, q⟩ := h
    refine ⟨_, (pss_cons (ps_set (i := 2) sc_law_published.nd rfl (.inl rfl) (pe_lst pa_nil))
      (pss_cons (ps_set (i := 3) sc_law_published.nd rfl (.inl rfl) (pe_lst pa_nil))
      (pss_cons (ps_for PassesOwn.never rfl (pi_range1 (by rfl) T.n_range (pa_cons (pe_callB call_len_seq (by rfl) T.n_len PySem.boot_len (pa_cons (pv 1) pa_nil)) pa_nil)) (pg_name (i := 4) sc_law_published.nd rfl (.inr rfl)) (pss_one (ps_if (pt_cmpR op_notIn_seq (pv 4) (pv 3) (by rfl)) (pss_cons (ps_setLc (i := 5) (own := [("_law_n", 6)]) (g := gName 6) rfl sc_law_published.nd rfl rfl (sw_true rfl rfl rfl (by decide +kernel)) (pi_range1 (by rfl) T.n_range (pa_cons (pe_callB call_len_seq (by rfl) T.n_len PySem.boot_len (pa_cons (pv 1) pa_nil)) pa_nil)) (blkOk_by (own := [("_law_n", 6)]) (N := ["_law_views", "_law_plan", "_law_found", "_law_seen", "_law_k", "_law_one", "_law_n"]) (sc := (defScope s_law_published)) (by decide +kernel)) (fun _ _ _ _ _ => (pg_name (i := 6) sc_law_published.nd rfl (.inl rfl))) (fun _ _ _ _ _ => (pts_one (PW.pt (pw_and (pt_cmpR op_eq (pe_ix (r := rIxT K) ix_tup (pv 1) (pv 6) (fun _ _ => rfl)) (pe_ix (r := rIxT K) ix_tup (pv 1) (pv 4) (fun _ _ => rfl)) (nomark _)) (pw_and1 (pt_cmpR (r := rEqD K) (op_eqD (Room.units hr)) (pe_ix (r := rIxT K) ix_tup (pe_ix (r := rIxT K) ix_tup (pv 0) (pv 6) (fun _ _ => rfl)) (pe_ix (r := rIxT K) ix_tup (pv 1) (pv 4) (fun _ _ => rfl)) (fun _ _ => rfl)) (pe_ix (r := rIxT K) ix_tup (pe_ix (r := rIxT K) ix_tup (pv 0) (pv 4) (fun _ _ => rfl)) (pe_ix (r := rIxT K) ix_tup (pv 1) (pv 4) (fun _ _ => rfl)) (fun _ _ => rfl)) (nomark _))))))) (fun _ _ _ _ _ => (pv 6)))
      (pss_cons (ps_set (i := 3) sc_law_published.nd rfl (.inl rfl) (pe_op op_cat (pv 3) (pv 5)))
      (pss_one (ps_expr (pe_bm PySem.F.plainAttrs_list PySem.F.slot_list_append PySem.F.type_list_append mt_append (pv 2) (pa_cons (pv 5) pa_nil)))))) pss_nil)))
      (pss_one (ps_ret (pv 2)))))), ?_⟩
    obtain ⟨va, vus, rfl, eva, lvu, hat⟩ := hv.get o
    refine ⟨by show 0 ≤ sizeLine; decide, fun B nB => ⟨by show 0 ≤ sizeLine; decide, fun S nS => ?_⟩⟩
    have nBS : B ≠ S := ne_of_none (o := .lst []) upd_same nS
    have k0 := same_upd (o := .lst []) (same_upd (o := .lst []) (Same.refl H) nB) nS
    have eB0 : upd (upd H B (.lst [])) S (.lst []) B = some (.lst []) := by rw [upd_ne nBS]; exact upd_same
    have eS0 : upd (upd H B (.lst [])) S (.lst []) S = some (.lst (([] : List Nat).map nV)) := upd_same
    generalize upd (upd H B (.lst [])) S (.lst []) = H0 at k0 eB0 eS0
    refine ⟨_, rfl, pa, _, rfl, .inr (SqT.of (k0 _ _ epa)), (n : Int), by rw [List.length_map, lpl], by omega, by omega, ?_⟩
    rw [toNat_k]
    refine for_it walk_range (fun i σ' H' => ∃ (us : List V) (MS : List (List Nat)) (sn : List Nat) (S : Addr) (x4 x5 x6 : Option V), σ' = [some (.ref va), some (.ref pa), some (.ref B), some (.ref S), x4, x5, x6] ∧ Same H H' ∧ H' B = some (.lst us) ∧ LV (LsF H B H') us MS ∧ MS.length ≤ i ∧ (∀ ms ∈ MS, ms ≠ [] ∧ ms.length ≤ n ∧ ∀ k ∈ ms, k < n) ∧ H' S = some (.lst (sn.map nV)) ∧ sn.length ≤ i * 24) ⟨[], [], [], S, none, none, none, rfl, k0, eB0, LV.nil, Nat.le_refl _, (fun _ h => nomatch h), eS0, Nat.zero_le _⟩ (fun _ _ _ _ _ => trivial) ?_ ?_
    · rintro k x σ' H1 H2 hk ⟨us, MS, sn, S, x4, x5, x6, rfl, k1, eB, lv, lMS, hMS, eS, lsn⟩ ⟨rfl, hx⟩
      have hx : x = nV k := by rw [hx]; exact int0 k
      subst hx
      have gk := atI_nat (nat_at (xs := pl) (i := k) (by omega))
      have hl := hpl _ (getD_mem (xs := pl) (i := k) (d := 0) (by omega))
      refine ⟨_, rfl, _, rfl, S, _, rfl, .inl (SqL.of eS), rfl, flat_nats _, ?_⟩
      by_cases nin : k ∈ sn
      · refine ⟨false, by rw [inV_nats, decide_eq_true nin]; rfl, ?_⟩
        exact ⟨us, MS, sn, S, _, _, _, rfl, k1, eB, lv, by omega, hMS, eS, by omega⟩
      · refine ⟨true, by rw [inV_nats, decide_eq_false nin]; rfl, ?_⟩
        refine ⟨_, rfl, pa, _, rfl, .inr (SqT.of (k1 _ _ epa)), (n : Int), by rw [List.length_map, lpl], by omega, by omega, ?_⟩
        rw [toNat_k]
        refine fun C nC => ?_
        obtain ⟨rk, rks, erk, erk2, lrk, hlk⟩ := hat k hk
        obtain ⟨vx, evx, tvx⟩ := hlk _ hl
        have hself : k ∈ oneL D n pl k := by
          have := hcl _ k hl hk
          have ⟨a, b⟩ := List.mem_filter.mp this
          exact List.mem_filter.mpr ⟨a, by rw [b, decide_eq_true rfl]; rfl⟩
        unfold oneL at hself
        generalize pl.getD k 0 = lvl at gk hl evx tvx hself
        refine lc_it walk_range (fun j H' => H' C = some (.lst (((List.range j).filter fun m => decide (pl.getD m 0 = lvl) && eqs D lvl m k).map nV)) ∧ Same H2 H') ⟨upd_same, same_upd (Same.refl H2) nC⟩ (fun _ _ _ _ => trivial) ?_ ?_
        · rintro j x H3 H4 hj ⟨eC, k3⟩ ⟨rfl, hx⟩
          have hx : x = nV j := by rw [hx]; exact int0 j
          subst hx
          have kk := k1.trans k3
          obtain ⟨rj, rjs, erj, erj2, lrj, hlj⟩ := hat j hj
          obtain ⟨vy, evy, tvy⟩ := hlj _ hl
          have e1 : okD (dat D j lvl) := o.ok hj hl
          have e2 : okD (dat D k lvl) := o.ok hk hl
          have lm : ((List.range j).filter fun m => decide (pl.getD m 0 = lvl) && eqs D lvl m k).length ≤ j := Nat.le_trans (List.length_filter_le _ _) (by rw [List.length_range]; exact Nat.le_refl _)
          have tp := SqT.of (K := K) (kk _ _ epa)
          refine ⟨rfl, ?_⟩
          refine ⟨_, rfl, _, rfl, pa, _, _, _, rfl, rfl, tp, atI_nat (nat_at (i := j) (by omega)), _, rfl, _, rfl, pa, _, _, _, rfl, rfl, tp, gk, rfl, ?_⟩
          rw [List.range_succ, List.filter_append]
          by_cases c : pl.getD j 0 = lvl
          · refine ⟨true, bTr (congrArg nV c), ?_⟩
            refine ⟨_, rfl, _, rfl, va, _, _, _, rfl, rfl, SqT.of (kk _ _ eva), atI_nat erj, _, rfl, _, rfl, pa, _, _, _, rfl, rfl, tp, gk, rj, _, _, _, rfl, rfl, SqT.of (kk _ _ erj2), atI_nat evy, _, rfl, _, rfl, va, _, _, _, rfl, rfl, SqT.of (kk _ _ eva), atI_nat erk, _, rfl, _, rfl, pa, _, _, _, rfl, rfl, tp, gk, rk, _, _, _, rfl, rfl, SqT.of (kk _ _ erk2), atI_nat evx, _, _, (Td.to (TK.same kk) tvy).dp, (Td.to (TK.same kk) tvx).dp, e1.sh, e2.sh, ?_⟩
            cases e : eqs D lvl j k with
            | true =>
              have e' : PyData.eqv (dat D j lvl) (dat D k lvl) = true := e
              refine ⟨true, by rw [e'], ?_⟩
              refine ⟨_, rfl, _, eC, szN (by rw [List.length_map]; omega), ?_, same_mut k3 nC⟩
              rw [upd_same, List.filter_cons_of_pos (by rw [e, decide_eq_true c]; rfl), List.map_append]; rfl
            | false =>
              have e' : PyData.eqv (dat D j lvl) (dat D k lvl) = false := e
              refine ⟨false, by rw [e'], ?_⟩
              rw [List.filter_cons_of_neg (by rw [e, Bool.and_false]; decide), List.filter_nil, List.append_nil]
              exact ⟨eC, k3⟩
          · refine ⟨false, bFa (fun z => c (nV_inj z)), ?_⟩
            rw [List.filter_cons_of_neg (by rw [decide_eq_false c, Bool.false_and]; decide), List.filter_nil, List.append_nil]
            exact ⟨eC, k3⟩
        · rintro H3 ⟨eC, k3⟩
          have lol : ((List.range n).filter fun m => decide (pl.getD m 0 = lvl) && eqs D lvl m k).length ≤ n := Nat.le_trans (List.length_filter_le _ _) (by rw [List.length_range]; exact Nat.le_refl _)
          have hlt : ∀ x ∈ (List.range n).filter (fun m => decide (pl.getD m 0 = lvl) && eqs D lvl m k), x < n := fun x hx => List.mem_range.mp (List.mem_filter.mp hx).1
          generalize (List.range n).filter (fun m => decide (pl.getD m 0 = lvl) && eqs D lvl m k) = one at eC lol hself hlt
          have eS3 := k3 _ _ eS
          have eB3 := k3 _ _ eB
          have nBC : B ≠ C := ne_of_none eB nC
          refine ⟨_, rfl, _, rfl, S, C, _, _, rfl, rfl, eS3, eC, Nat.le_of_lt (szN (by rw [List.length_map, List.length_map]; omega)), fun p np => ?_⟩
          have nBp : B ≠ p := ne_of_none eB3 np
          have k4 := same_upd (o := .lst (sn.map nV ++ one.map nV)) (k1.trans k3) np
          have eB4 : upd H3 p (.lst (sn.map nV ++ one.map nV)) B = some (.lst us) := by rw [upd_ne nBp]; exact eB3
          have eC4 : upd H3 p (.lst (sn.map nV ++ one.map nV)) C = some (.lst (one.map nV)) := by rw [upd_ne (ne_of_none eC np)]; exact eC
          have ep4 : upd H3 p (.lst (sn.map nV ++ one.map nV)) p = some (.lst ((sn ++ one).map nV)) := by
            rw [upd_same, List.map_append]
          have lv4 : LV (LsF H B (upd H3 p (.lst (sn.map nV ++ one.map nV)))) us MS := lv.mono fun _ _ z => z.off fun b o _ h => by rw [upd_ne (ne_of_none (k3 _ _ h) np)]; exact k3 _ _ h
          generalize upd H3 p (.lst (sn.map nV ++ one.map nV)) = H4 at k4 eB4 eC4 ep4 lv4
          refine ⟨.ref B, rfl, .inl ⟨rfl, _, .inl (.inl eB4)⟩, _, rfl, B, us, _, rfl, rfl, eB4, szN (by rw [lv.1]; omega), ?_⟩
          refine ⟨us ++ [.ref C], MS ++ [one], sn ++ one, p, _, _, _, rfl, same_mut k4 nB, upd_same, ?_, by rw [List.length_append]; exact Nat.succ_le_succ lMS, fun ms hm => ?_, by rw [upd_ne nBp.symm]; exact ep4, by rw [List.length_append, Nat.add_mul]; omega⟩
          · exact (lv4.snoc ⟨C, rfl, nBC.symm, none_same k1 nC, eC4⟩).mono fun _ _ z => z.off fun b o n h => by rw [upd_ne n]; exact h
          · rcases List.mem_append.mp hm with h | h
            · exact hMS ms h
            · rw [List.mem_singleton.mp h]
              exact ⟨List.ne_nil_of_mem hself, lol, hlt⟩
    · rintro σ' H1 ⟨us, MS, sn, S, x4, x5, x6, rfl, k1, eB, lv, lMS, hMS, eS, lsn⟩
      exact ⟨_, rfl, q _ _ us MS k1 nB eB lv lMS hMS⟩
end
section
variable {P : Program} {w : World} {K : PySem.W.Frag} {mg : Str → Option Value} {base : Heap}
def tRow : TE := fun σ H Q => ∃ (d l R m : Addr) (us : List V) (rs : List (List Nat)) (ms : List Nat), σ[0]? = some (some (.ref d)) ∧ σ[7]? = some (some (.ref R)) ∧ σ[6]? = some (some (.ref m)) ∧ DI d l H ∧ R ≠ d ∧ H R = some (.lst us) ∧ LV (NsR H) us rs ∧ (∀ r ∈ rs, r.length = 3) ∧ us.length ≤ 1000 ∧ m ≠ d ∧ H m = some (.lst (ms.map nV)) ∧ ms ≠ [] ∧ ∀ (H' : Hp) (v : V), Kp d H H' → DI d l H' → R3 H' v → Q v H'
def spPapers : Sp := fun vs H Q _ => ∃ (d l : Addr) (sc v plv : V) (n L : Nat) (F C : List (List Nat)) (W : List Wt) (D : List (List PyData)) (pl : List Nat), vs = [.ref d, sc, v, plv] ∧ DI d l H ∧ ScR H sc F C W ∧ ScOk n F C W ∧ VwR H v D ∧ VwOk n L D ∧ (∀ lv k, lv < L → k < n → k ∈ clsOf D n lv k) ∧ NsR H plv pl ∧ pl.length = n ∧ (∀ x ∈ pl, x < L) ∧
  ∀ H' a u1 u2, Kp d H H' → DI d l H' → a ≠ d → H' a = some (.lst [u1, u2]) → PpV H' u1 → PpV H' u2 → Q (.ref a) H'
theorem ok_papers (T : Txt K mg) : FnOk P w K mg base CX0 3 T.a_law_plan_papers T.d_law_plan_papers ["_law_d", "_law_scene", "_law_views", "_law_plan"] spPapers := by
  have G_law_published : FnOk P w K mg base CX0 1 T.a_law_published T.d_law_published ["_law_views", "_law_plan"] spLPubW := ok_lpubW T
  have G_law_plan_rows : FnOk P w K mg base CX0 2 T.a_law_plan_rows T.d_law_plan_rows ["_law_scene", "_law_views", "_law_members", "_law_level"] spRows := ok_rows T
  have G_law_draw : FnOk P w K mg base CX0 1 T.a_law_draw T.d_law_draw ["_law_d", "_law_many"] spDraw := ok_draw T
  have G_law_pick : FnOk P w K mg base CX0 2 T.a_law_pick T.d_law_pick ["_law_d", "_law_row"] (spPick K) := ok_pick T
  refine T.D_law_plan_papers.F.ok sc_law_plan_papers (fun vs H Q E h => ?_) (fun cdv A outer s H vs Q E hr h => ?_)
  · obtain ⟨d, l, sc, v, plv, n, L, F, C, W, D, pl, rfl, _⟩ := h
    rfl
  · obtain ⟨d, l, sc, v, plv, n, L, F, C, W, D, pl, rfl, hD, hsc, osc, hv, o, hcl, ⟨pa, rfl, epa⟩, lpl, hpl, q⟩ := h
    refine ⟨_, (pss_cons (ps_set (i := 4) sc_law_plan_papers.nd rfl (.inl rfl) (pe_lst pa_nil))
      (pss_cons (ps_set (i := 5) sc_law_plan_papers.nd rfl (.inl rfl) (pe_lst pa_nil))
      (pss_cons (ps_for PassesOwn.never rfl (pi_list (pe_call G_law_published (hr.mono (by decide)) (by rfl) T.D_law_published.G T.D_law_published.F.kp T.D_law_published.B .nil pass0 (pa_cons (pv 2) (pa_cons (pv 3) pa_nil)))) (pg_name (i := 6) sc_law_plan_papers.nd rfl (.inl rfl)) (pss_one (ps_if (pt_cmpR op_gt (pe_ix ix_tup (pv 3) (pe_ix ix_list (pv 6) pe_int (fun _ _ => rfl)) (fun _ _ => rfl)) pe_int (nomark _)) (pss_cons (ps_set (i := 7) sc_law_plan_papers.nd rfl (.inl rfl) (pe_call G_law_plan_rows (hr.mono (by decide)) (by rfl) T.D_law_plan_rows.G T.D_law_plan_rows.F.kp T.D_law_plan_rows.B .nil pass0 (pa_cons (pv 1) (pa_cons (pv 2) (pa_cons (pv 6) (pa_cons (pe_ix ix_tup (pv 3) (pe_ix ix_list (pv 6) pe_int (fun _ _ => rfl)) (fun _ _ => rfl)) pa_nil))))))
      (pss_cons (ps_expr (pe_bm PySem.F.plainAttrs_list PySem.F.slot_list_append PySem.F.type_list_append mt_append (pv 4) (pa_cons (PE.to (t' := tRow) (pe_ifExp (pt_truth (pv 7) (by intro _; rfl)) (pe_call G_law_pick (hr.mono (by decide)) (by rfl) T.D_law_pick.G T.D_law_pick.F.kp T.D_law_pick.B .nil pass0 (pa_cons (pv 0) (pa_cons (pv 7) pa_nil))) (pe_tup (pa_cons (pe_ix ix_list (pv 6) pe_int (fun _ _ => rfl)) (pa_cons (pe_call G_law_draw (hr.mono (by decide)) (by rfl) T.D_law_draw.G T.D_law_draw.F.kp T.D_law_draw.B .nil pass0 (pa_cons (pv 0) (pa_cons pe_int pa_nil))) (pa_cons (pe_call G_law_draw (hr.mono (by decide)) (by rfl) T.D_law_draw.G T.D_law_draw.F.kp T.D_law_draw.B .nil pass0 (pa_cons (pv 0) (pa_cons pe_int pa_nil))) pa_nil))))) (fun σ H Q h => by
      obtain ⟨d, l, R, m, us, rs, ms, e0, e7, e6, hD, nR, eR, lR, h3, l1000, nm, em, hne, q⟩ := h
      refine ⟨_, e7, !us.isEmpty, .inl ⟨_, SqL.of eR, rfl⟩, ?_⟩
      cases us with
      | cons u0 ur =>
        refine ⟨_, e0, _, e7, d, l, .ref R, u0 :: ur, rfl, hD, .inl ⟨R, rfl, nR, SqL.of eR⟩, Nat.succ_pos _, l1000, fun H4 v k4 D4 hv => ?_⟩
        obtain ⟨j, hj, ej⟩ := mem_at hv
        obtain ⟨r, er, hr⟩ := lR.at ej
        exact q H4 v k4 D4 ⟨r, NsR.mn.to hr (kpTup hD k4), h3 r (List.mem_of_getElem? er)⟩
      | nil =>
        obtain ⟨m0, mr, rfl⟩ := List.exists_cons_of_ne_nil hne
        refine ⟨_, e6, m, _, _, _, rfl, rfl, SqL.of em, atI_nat (j := 0) rfl, _, e0, d, l, 3, rfl, hD, by decide, fun H1 r1 k1 D1 a1 a2 => ?_⟩
        obtain ⟨g1, rfl, hg1⟩ := draw_nt (by decide) a1 a2
        refine ⟨_, e0, d, l, 3, rfl, D1, by decide, fun H2 r2 k2 D2 b1 b2 => ?_⟩
        obtain ⟨g2, rfl, hg2⟩ := draw_nt (by decide) b1 b2
        refine ⟨by show 3 ≤ sizeLine; decide, fun t nt => ?_⟩
        exact q _ _ ((k1.trans k2).new nt) (D2.new nt) ⟨[m0, g1, g2], ⟨t, rfl, upd_same⟩, rfl⟩)) pa_nil)))
      (pss_one (ps_set (i := 5) sc_law_plan_papers.nd rfl (.inl rfl) (pe_op op_cat (pv 5) (pe_slice sl_list (pv 7) po_none (po_some pe_int))))))) pss_nil)))
      (pss_one (ps_ret (pe_lst (pa_cons (pe_callTy call_tuple_of (by rfl) T.n_tuple (by decide +kernel) (pa_cons (pv 4) pa_nil)) (pa_cons (pe_callTy call_tuple_of (by rfl) T.n_tuple (by decide +kernel) (pa_cons (pv 5) pa_nil)) pa_nil)))))))), ?_⟩
    have nn := osc.nn
    refine ⟨by show 0 ≤ sizeLine; decide, fun A nA => ⟨by show 0 ≤ sizeLine; decide, fun S nS => ?_⟩⟩
    have nAd := hD.nd nA
    have nAS : A ≠ S := ne_of_none (o := .lst []) upd_same nS
    have k0 := same_upd (o := .lst []) (same_upd (o := .lst []) (Same.refl H) nA) nS
    have eA0 : upd (upd H A (.lst [])) S (.lst []) A = some (.lst []) := by rw [upd_ne nAS]; exact upd_same
    have eS0 : upd (upd H A (.lst [])) S (.lst []) S = some (.lst []) := upd_same
    have nSH : H S = none := by rw [upd_ne nAS.symm] at nS; exact nS
    generalize upd (upd H A (.lst [])) S (.lst []) = H0 at k0 eA0 eS0
    have D0 := hD.keep k0
    refine ⟨_, rfl, _, rfl, v, .ref pa, n, L, D, pl, rfl, VwR.mn.to hv (TK.same k0), o, ⟨pa, rfl, k0 _ _ epa⟩, lpl, hpl, nn, hcl, fun H3 M mus MS k3 nM eM lM lMS hMS => ?_⟩
    have nMd : M ≠ d := (D0.nd nM).1
    have nMA : M ≠ A := (ne_of_none eA0 nM).symm
    have k03 := k0.trans k3
    have lml := lM.1
    refine ⟨M, rfl, ⟨_, SqL.of eM⟩, ?_⟩
    refine for_it (walk_list (K := K) (a := M) (xs := mus)) (fun i σ' H' => ∃ (u1 u2 : List V) (S : Addr) (x6 x7 : Option V), σ' = [some (.ref d), some sc, some v, some (.ref pa), some (.ref A), some (.ref S), x6, x7] ∧ Kp d H H' ∧ DI d l H' ∧ Kx d A H3 H' ∧ H' A = some (.lst u1) ∧ u1.length ≤ i ∧ (∀ x ∈ u1, R3 H' x) ∧ S ≠ d ∧ S ≠ A ∧ H' S = some (.lst u2) ∧ u2.length ≤ i ∧ (∀ x ∈ u2, R3 H' x)) ⟨[], [], S, none, none, rfl, Kp.of_same k03, hD.keep k03, (fun _ _ _ _ h => h), k3 _ _ eA0, Nat.le_refl _, (fun _ h => nomatch h), (hD.nd nSH).1, nAS.symm, k3 _ _ eS0, Nat.le_refl _, (fun _ h => nomatch h)⟩ ?_ ?_ ?_
    · rintro i σ' H' _ ⟨_, _, _, _, _, _, _, _, k, _⟩
      exact SqL.of (k _ _ nMd nMA eM)
    · rintro i x σ' H4 H5 hi ⟨u1, u2, S, x6, x7, rfl, k4, D4, kx4, eA, l1, h1, nSd, nSA, eS, l2, h2⟩ ⟨rfl, hx⟩
      obtain ⟨ms, ems, b, rfl, nbM, nb0, eb⟩ := lM.at hx
      have ⟨hne, hln, hmn⟩ := hMS ms (List.mem_of_getElem? ems)
      have hi24 : i < 24 := by omega
      have nbd : b ≠ d := (D0.nd nb0).1
      have nbA : b ≠ A := (ne_of_none eA0 nb0).symm
      have eb4 := kx4 _ _ nbd nbA eb
      have ep4 := kpTup hD k4 _ _ epa
      obtain ⟨m0, mr, rfl⟩ := List.exists_cons_of_ne_nil hne
      have hm0 := hmn m0 List.mem_cons_self
      have g0 : atI ((m0 :: mr).map nV) 0 = some (nV m0) := atI_nat (j := 0) rfl
      have gk := atI_nat (nat_at (xs := pl) (i := m0) (by omega))
      have hl := hpl _ (getD_mem (xs := pl) (i := m0) (d := 0) (by omega))
      generalize pl.getD m0 0 = lv at gk hl
      refine ⟨_, rfl, _, rfl, b, _, _, _, rfl, rfl, SqL.of eb4, g0, pa, _, _, _, rfl, rfl, SqT.of ep4, gk, _, _, rfl, rfl, ?_⟩
      by_cases c : 0 < lv
      · refine ⟨true, bTr (by omega), ?_⟩
        refine ⟨_, rfl, _, rfl, _, rfl, _, rfl, _, rfl, b, _, _, _, rfl, rfl, SqL.of eb4, g0, pa, _, _, _, rfl, rfl, SqT.of ep4, gk, sc, v, b, lv, n, L, F, C, W, D, m0 :: mr, rfl, hsc.mn (kpTup hD k4), osc, VwR.mn.to hv (kpTup hD k4), o, c, by omega, eb4, hmn, by omega, fun H6 R rus k6 nR eR lR => ?_⟩
        have D6 := D4.keep k6
        have eA6 := k6 _ _ eA
        have eS6 := k6 _ _ eS
        have rb := rows_bound osc (low := fun k => clsOf D n (lv - 1) k) hmn (by omega)
        have lrl := lR.1
        have nRd := (D4.nd nR).1
        have nRA : R ≠ A := (ne_of_none eA nR).symm
        refine ⟨.ref A, rfl, .inl ⟨rfl, _, .inl (.inl eA6)⟩, ?_⟩
        refine ⟨d, l, R, b, rus, _, m0 :: mr, rfl, rfl, rfl, D6, nRd, eR, lR, rows3, by omega, nbd, k6 _ _ eb4, hne, fun H7 u k7 D7 hu => ?_⟩
        have eA7 := k7 _ _ nAd.1 eA6
        have eS7 := k7 _ _ nSd eS6
        have eR7 := k7 _ _ nRd eR
        have t7 := (TK.same k6).trans (kpTup D6 k7)
        refine ⟨A, _, _, rfl, rfl, eA7, szN (by omega), ?_⟩
        have tA : TK H7 (upd H7 A (.lst (u1 ++ [u]))) := TK.mut (TK.refl _) eA7
        have k8 : Kp d H (upd H7 A (.lst (u1 ++ [u]))) := (k4.trans ((Kp.of_same k6).trans k7)).mut nA
        have D8 : DI d l (upd H7 A (.lst (u1 ++ [u]))) := D7.at nAd.1 nAd.2
        have eA8 : upd H7 A (.lst (u1 ++ [u])) A = some (.lst (u1 ++ [u])) := upd_same
        have kx8 : Kx d A H3 (upd H7 A (.lst (u1 ++ [u]))) := fun b o h1 h2 h => by rw [upd_ne h2]; exact k7 _ _ h1 (k6 _ _ (kx4 _ _ h1 h2 h))
        have eS8 : upd H7 A (.lst (u1 ++ [u])) S = some (.lst u2) := by rw [upd_ne nSA]; exact eS7
        have eR8 : upd H7 A (.lst (u1 ++ [u])) R = some (.lst rus) := by rw [upd_ne nRA]; exact eR7
        have h18 : ∀ x ∈ u1 ++ [u], R3 (upd H7 A (.lst (u1 ++ [u]))) x := fun x hx => by
          rcases List.mem_append.mp hx with h | h
          · exact (h1 x h).to (t7.trans tA)
          · rw [List.mem_singleton.mp h]; exact hu.to tA
        have h28 : ∀ x ∈ u2, R3 (upd H7 A (.lst (u1 ++ [u]))) x := fun x hx => (h2 x hx).to (t7.trans tA)
        have hr8 : ∀ x ∈ rus, R3 (upd H7 A (.lst (u1 ++ [u]))) x := fun x hx => by
          obtain ⟨j, hj, ej⟩ := mem_at hx
          obtain ⟨r, er, hr⟩ := lR.at ej
          exact R3.to ⟨r, hr, rows3 r (List.mem_of_getElem? er)⟩ (TK.trans (kpTup D6 k7) tA)
        generalize upd H7 A (.lst (u1 ++ [u])) = H8 at k8 D8 eA8 kx8 eS8 eR8 h18 h28 hr8
        refine ⟨_, rfl, _, rfl, _, rfl, _, _, rfl, SqL.of eR8, fun p np => ?_⟩
        have nAp : A ≠ p := ne_of_none eA8 np
        have nSp : S ≠ p := ne_of_none eS8 np
        have hc : ∀ x ∈ cutV rus none (some 1), x ∈ rus := fun x hx => List.mem_of_mem_drop (List.mem_of_mem_take hx)
        have lc : (cutV rus none (some 1)).length ≤ 1 := by rw [cut_one, List.length_take]; omega
        generalize cutV rus none (some 1) = cs at hc lc
        have t9 : TK H8 (upd H8 p (.lst cs)) := TK.new (TK.refl _) np
        have ep9 : upd H8 p (.lst cs) p = some (.lst cs) := upd_same
        have eA9 : upd H8 p (.lst cs) A = some (.lst (u1 ++ [u])) := by rw [upd_ne nAp]; exact eA8
        have eS9 : upd H8 p (.lst cs) S = some (.lst u2) := by rw [upd_ne nSp]; exact eS8
        have k9 := k8.new (o := .lst cs) np
        have D9 := D8.new (o := .lst cs) np
        have kx9 : Kx d A H3 (upd H8 p (.lst cs)) := fun b o h1 h2 h => by
          have h := kx8 _ _ h1 h2 h
          rw [upd_ne (ne_of_none h np)]; exact h
        generalize upd H8 p (.lst cs) = H9 at t9 ep9 eA9 eS9 k9 D9 kx9
        refine ⟨S, p, u2, cs, rfl, rfl, eS9, ep9, Nat.le_of_lt (szN (by omega)), fun p2 np2 => ?_⟩
        have t10 : TK H8 (upd H9 p2 (.lst (u2 ++ cs))) := t9.new np2
        refine ⟨u1 ++ [u], u2 ++ cs, p2, _, _, rfl, k9.new np2, D9.new np2, fun b o h1 h2 h => ?_, ?_, by rw [List.length_append]; exact Nat.succ_le_succ l1, fun x hx => (h18 x hx).to t10, (D9.nd np2).1, (ne_of_none eA9 np2).symm, upd_same, by rw [List.length_append]; omega, fun x hx => ?_⟩
        · have h := kx9 _ _ h1 h2 h
          rw [upd_ne (ne_of_none h np2)]; exact h
        · rw [upd_ne (ne_of_none eA9 np2)]; exact eA9
        · rcases List.mem_append.mp hx with h | h
          · exact (h28 x h).to t10
          · exact (hr8 x (hc x h)).to t10
      · refine ⟨false, bFa (by omega), ?_⟩
        exact ⟨u1, u2, S, _, _, rfl, k4, D4, kx4, eA, by omega, h1, nSd, nSA, eS, by omega, h2⟩
    · rintro σ' H4 ⟨u1, u2, S, x6, x7, rfl, k4, D4, kx4, eA, l1, h1, nSd, nSA, eS, l2, h2⟩
      refine ⟨_, rfl, A, _, rfl, .inl ⟨SqL.of eA, fun p np => ?_⟩⟩
      have t5 : TK H4 (upd H4 p (.tup u1)) := TK.new (TK.refl _) np
      have k5 := k4.new (o := .tup u1) np
      have D5 := D4.new (o := .tup u1) np
      have hp5 : PpV (upd H4 p (.tup u1)) (.ref p) := ⟨p, u1, rfl, upd_same, by omega, fun x hx => (h1 x hx).to t5⟩
      have eS5 : upd H4 p (.tup u1) S = some (.lst u2) := by rw [upd_ne (ne_of_none eS np)]; exact eS
      have h2 : ∀ x ∈ u2, R3 (upd H4 p (.tup u1)) x := fun x hx => (h2 x hx).to t5
      generalize upd H4 p (.tup u1) = H5 at k5 D5 hp5 eS5 h2
      refine ⟨_, rfl, S, _, rfl, .inl ⟨SqL.of eS5, fun p2 np2 => ?_⟩⟩
      have t6 : TK H5 (upd H5 p2 (.tup u2)) := TK.new (TK.refl _) np2
      have k6 := k5.new (o := .tup u2) np2
      have D6 := D5.new (o := .tup u2) np2
      have hp6 := hp5.to t6
      have hq6 : PpV (upd H5 p2 (.tup u2)) (.ref p2) := ⟨p2, u2, rfl, upd_same, by omega, fun x hx => (h2 x hx).to t6⟩
      generalize upd H5 p2 (.tup u2) = H6 at k6 D6 hp6 hq6
      refine ⟨by show 2 ≤ sizeLine; decide, fun a na => ?_⟩
      have t7 : TK H6 (upd H6 a (.lst [.ref p, .ref p2])) := TK.new (TK.refl _) na
      exact q _ a _ _ (k6.new na) (D6.new na) (D6.nd na).1 upd_same (hp6.to t7) (hq6.to t7)
end
end Vf

set_option Elab.async false
set_option linter.all false
set_option maxRecDepth 100000
set_option maxHeartbeats 4000000
namespace Vf
open PySem PySem.Spec PyProof.Rows L2
/-! ### a tuple once, and not at all -/
theorem tuple_mul1 (l : Addr) (items : Array Value) (n : Nat) (dd : Option Addr) (sl : Array (Option Value)) (u : Tok) (c1 : (items.isEmpty || (1 : Int) == 1) = true) :
    Meets (Builtin.«tuple.__mul__» ⟨[.ref l, .int 1 u], []⟩) (fun _ R s => s.heap.get? l = some { cls := .type "tuple", dict := dd, data := .seq items n, slots := sl } ∧ R (.ok (.ret (Value.ref l))) s) :=
  .of_wp fun prog w A R s h => by
    obtain ⟨hp, g, d, tk, os⟩ := s
    obtain ⟨hl, h⟩ := h
    have f1 := AutoSeq1.idx_int
    wp_walk using wpAny_loadPart' hl
    exact ⟨_, rfl, h⟩
theorem tuple_mul0 (l : Addr) (items : Array Value) (n : Nat) (dd : Option Addr) (sl : Array (Option Value)) (u : Tok) (c1 : (items.isEmpty || (0 : Int) == 1) = false) (c2 : (decide ((0 : Int) ≤ 0) || items.isEmpty) = true) :
    Meets (Builtin.«tuple.__mul__» ⟨[.ref l, .int 0 u], []⟩) (fun _ R s => s.heap.get? l = some { cls := .type "tuple", dict := dd, data := .seq items n, slots := sl } ∧
      R (.ok (.ret (Value.ref s.heap.objs.size))) { s with heap := s.heap.push { cls := Value.type "tuple", data := Data.seq #[] }, toks := s.toks }) :=
  .of_wp fun prog w A R s h => by
    obtain ⟨hp, g, d, tk, os⟩ := s
    obtain ⟨hl, h⟩ := h
    have f1 := AutoSeq1.idx_int
    wp_walk using wpAny_loadPart' hl
    repeat (first
      | (refine wpAny_ite_false (decide_eq_false (by rw [c1]; exact Bool.false_ne_true)) ?_; wp_walk using wpAny_loadPart' hl)
      | (refine wpAny_ite_true (decide_eq_true c2) ?_; wp_walk using wpAny_loadPart' hl))
    exact ⟨_, rfl, h⟩
def rRepA (K : PySem.W.Frag) : R2 := fun x y H Q => ∃ l k xs, x = .ref l ∧ y = .int k ∧ SqT K H l xs ∧ xs ≠ [] ∧ 0 ≤ k ∧ k ≤ 1000 ∧ xs.length ≤ 1000 ∧ (k = 1 → Q (.ref l) H) ∧ (k ≠ 1 → ∀ p, H p = none → Q (.ref p) (upd H p (.tup (List.replicate k.toNat xs).flatten)))
theorem op_repA {X : Cx} : OpR X (binaryOp .Mult) (rRepA X.K) := by
  intro pins s σ H x y v u Q I rx ry h
  obtain ⟨l, k, xs, rfl, rfl, hT, hne, h1, h2, hz, q1, q⟩ := h
  by_cases k2 : 2 ≤ k
  · exact op_repT pins s σ H _ _ v u Q I rx ry ⟨l, k, xs, rfl, rfl, hT, hne, k2, h2, hz, q (by omega)⟩
  cases rx
  obtain ⟨t, rfl⟩ := ry
  obtain ⟨its, r, ⟨⟨cls, dd, data, sl⟩, ho, hc, n, hd⟩, hs⟩ := I.tuple hT
  simp only at hc hd
  subst hc hd
  have hle : its.length = xs.length := r.length.symm
  have hn : its ≠ [] := fun e => hne (by
    rw [e] at hle
    exact List.eq_nil_of_length_eq_zero hle.symm)
  have hi : its.toArray.isEmpty = false := by
    cases its with
    | nil => exact absurd rfl hn
    | cons a b => rfl
  by_cases k1 : k = 1
  · subst k1
    refine wpAny_binaryOp_repeat_ref (T := "tuple") (U := "int") (by decide) ⟨_, ho, rfl⟩ (fun s' => typeIs_int s' 1 t) noFill_tuple_mul F.fills_int_mul F.slot_int_rmul repeat_tuple F.slot_int_index.lookup
      (call_meets F.slot_int_rmul (typeIs_int s 1 t) F.entry_int_rmul (F.args_int_rmul_2 _ _) (int_rmul_tuple 1 t l its.toArray n dd sl)
        ⟨ho, rfl, ⟨_, ho, rfl⟩, call_meets F.slot_tuple_mul ⟨_, ho, rfl⟩ F.entry_tuple_mul (F.args_tuple_mul_2 _ _) (tuple_mul1 l its.toArray n dd sl t (by rw [hi]; rfl)) ⟨ho, ?_⟩⟩)
    exact ⟨.ref l, H, I, rfl, q1 rfl⟩
  · have k0 : k = 0 := by omega
    subst k0
    refine wpAny_binaryOp_repeat_ref (T := "tuple") (U := "int") (by decide) ⟨_, ho, rfl⟩ (fun s' => typeIs_int s' 0 t) noFill_tuple_mul F.fills_int_mul F.slot_int_rmul repeat_tuple F.slot_int_index.lookup
      (call_meets F.slot_int_rmul (typeIs_int s 0 t) F.entry_int_rmul (F.args_int_rmul_2 _ _) (int_rmul_tuple 0 t l its.toArray n dd sl)
        ⟨ho, rfl, ⟨_, ho, rfl⟩, call_meets F.slot_tuple_mul ⟨_, ho, rfl⟩ F.entry_tuple_mul (F.args_tuple_mul_2 _ _) (tuple_mul0 l its.toArray n dd sl t (by rw [hi]; rfl) (by rfl)) ⟨ho, ?_⟩⟩)
    refine ⟨.ref s.heap.objs.size, _, I.laid (t' := s.toks) (o := .tup (List.replicate (0 : Int).toNat xs).flatten) (fun b ob q => Heap.get?_push_of_some _ q) (Nat.le_refl _) ?_, rfl, q (by decide) _ (I.hok.fresh (Nat.le_refl _))⟩
    exact ⟨Nat.zero_le _, _, .nil, IsTup.new _ _⟩
theorem rep_nats (n v : Nat) : (List.replicate n [nV v]).flatten = (List.replicate n v).map nV := by
  induction n with
  | zero => rfl
  | succ n ih => rw [List.replicate_succ, List.flatten_cons, ih, List.replicate_succ, List.map_cons]; rfl
end Vf

set_option Elab.async false
set_option linter.all false
set_option maxRecDepth 100000
set_option maxHeartbeats 4000000
namespace Vf
open PySem PySem.Spec PyProof.Rows L2 TL
/-- a plan: a tuple of levels -/
def PlV (n L : Nat) (H : Hp) (u : V) : Prop := ∃ pl : List Nat, NsR H u pl ∧ pl.length = n ∧ ∀ x ∈ pl, x < L
theorem PlV.to {n L : Nat} {H H' : Hp} {u : V} (h : PlV n L H u) (k : TK H H') : PlV n L H' u := by
  obtain ⟨r, a, b⟩ := h
  exact ⟨r, NsR.mn.to a k, b⟩
theorem rep_one (g n : Nat) : (List.replicate n [nV g]).flatten = (List.replicate n g).map nV := by
  induction n with
  | zero => rfl
  | succ n ih => rw [List.replicate_succ, List.replicate_succ, List.flatten_cons, ih]; rfl
theorem snoc_lt {L g : Nat} {ds : List Nat} (h : ∀ x ∈ ds, x < L) (hg : g < L) : ∀ x ∈ ds ++ [g], x < L := fun x hx => by
  rcases List.mem_append.mp hx with e | e
  · exact h x e
  · rw [List.mem_singleton.mp e]; exact hg
theorem snoc_all {p : V → Prop} {us : List V} {u : V} (h : ∀ x ∈ us, p x) (hu : p u) : ∀ x ∈ us ++ [u], p x := fun x hx => by
  rcases List.mem_append.mp hx with e | e
  · exact h x e
  · rw [List.mem_singleton.mp e]; exact hu
section
variable {P : Program} {w : World} {K : PySem.W.Frag} {mg : Str → Option Value} {base : Heap}
def spTries : Sp := fun vs H Q _ => ∃ (d l ch : Addr) (pv : V) (n : Nat) (R : List (List Nat)) (pl : List Nat), vs = [.ref d, .ref ch, pv] ∧ DI d l H ∧ ChV d n H ch R ∧ 1 ≤ n ∧ n ≤ 6 ∧ R.length ≤ 5 ∧ NsR H pv pl ∧ pl.length = n ∧ (∀ x ∈ pl, x < R.length) ∧
  ∀ H' a us, Kp d H H' → DI d l H' → a ≠ d → H' a = some (.lst us) → us.length ≤ 100 → (∀ u ∈ us, PlV n R.length H' u) → Q (.ref a) H'
theorem ok_tries (T : Txt K mg) : FnOk P w K mg base CX0 2 T.a_law_plan_tries T.d_law_plan_tries ["_law_d", "_law_chain", "_law_best"] spTries := by
  have G_law_plan_number : FnOk P w K mg base CX0 1 T.a_law_plan_number T.d_law_plan_number ["_law_number", "_law_n", "_law_levels"] spNumL := ok_numL T
  have G_law_draw : FnOk P w K mg base CX0 1 T.a_law_draw T.d_law_draw ["_law_d", "_law_many"] spDraw := ok_draw T
  refine T.D_law_plan_tries.F.ok sc_law_plan_tries (fun vs H Q E h => ?_) (fun cdv A outer s H vs Q E hr h => ?_)
  · obtain ⟨d, l, ch, pv, n, R, pl, rfl, _⟩ := h
    rfl
  · obtain ⟨d, l, ch, pv, n, R, pl, rfl, hD, hch, n1, n6, R5, ⟨p, rfl, ep⟩, lpl, hpl, q⟩ := h
    refine ⟨_, (pss_cons (ps_set (i := 3) sc_law_plan_tries.nd rfl (.inr rfl) (pe_callB call_len_seq (by rfl) T.n_len PySem.boot_len (pa_cons (pv 2) pa_nil)))
      (pss_cons (ps_set (i := 4) sc_law_plan_tries.nd rfl (.inr rfl) (pe_callB call_len_seq (by rfl) T.n_len PySem.boot_len (pa_cons (pv 1) pa_nil)))
      (pss_cons (ps_set (i := 5) sc_law_plan_tries.nd rfl (.inl rfl) pe_int)
      (pss_cons (ps_for PassesOwn.never rfl (pi_range1 (by rfl) T.n_range (pa_cons (pv 3) pa_nil)) (pg_name (i := 6) sc_law_plan_tries.nd rfl (.inr rfl)) (pss_one (ps_set (i := 5) sc_law_plan_tries.nd rfl (.inl rfl) (pe_op op_mul (pv 5) (pv 4)))))
      (pss_cons (ps_if (pt_cmpR op_le (pv 5) pe_int (nomark _)) (pss_one (ps_ret (pe_lc (own := [("_law_number", 11)]) (g := gName 11) (tt := tYes) rfl sc_law_plan_tries.nd (pi_range1 (by rfl) T.n_range (pa_cons (pv 5) pa_nil)) (blkOk_by (own := [("_law_number", 11)]) (N := ["_law_d", "_law_chain", "_law_best", "_law_n", "_law_levels", "_law_total", "_law_k", "_law_found", "_law_row", "_law_level", "_law_turn", "_law_number", "_law_m"]) (sc := (defScope s_law_plan_tries)) (by decide +kernel)) (fun _ _ _ _ _ => (pg_name (i := 11) sc_law_plan_tries.nd rfl (.inl rfl))) (fun _ _ _ _ _ => pts_nil) (fun _ _ _ _ _ => (pe_callTy (T := "tuple") (r := rTupleOf K) call_tuple_of (by rfl) T.n_tuple (by decide +kernel) (pa_cons (pe_call G_law_plan_number (hr.mono (by decide)) (by rfl) T.D_law_plan_number.G T.D_law_plan_number.F.kp T.D_law_plan_number.B .nil pass0 (pa_cons (pv 11) (pa_cons (pv 3) (pa_cons (pv 4) pa_nil)))) pa_nil)))))) pss_nil)
      (pss_cons (ps_set (i := 7) sc_law_plan_tries.nd rfl (.inl rfl) (pe_op op_cat (pe_lst (pa_cons (pv 2) pa_nil)) (pe_lc (own := [("_law_level", 9)]) (g := gName 9) (tt := tYes) rfl sc_law_plan_tries.nd (pi_range1 (by rfl) T.n_range (pa_cons (pv 4) pa_nil)) (blkOk_by (own := [("_law_level", 9)]) (N := ["_law_d", "_law_chain", "_law_best", "_law_n", "_law_levels", "_law_total", "_law_k", "_law_found", "_law_row", "_law_level", "_law_turn", "_law_number", "_law_m"]) (sc := (defScope s_law_plan_tries)) (by decide +kernel)) (fun _ _ _ _ _ => (pg_name (i := 9) sc_law_plan_tries.nd rfl (.inl rfl))) (fun _ _ _ _ _ => pts_nil) (fun _ _ _ _ _ => (pe_op (r := rRepA K) op_repA (pe_tup (pa_cons (pv 9) pa_nil)) (pv 3))))))
      (pss_cons (ps_for PassesOwn.never rfl (pi_range1 (by rfl) T.n_range (pa_cons (pv 3) pa_nil)) (pg_name (i := 6) sc_law_plan_tries.nd rfl (.inr rfl)) (pss_cons (ps_set (i := 8) sc_law_plan_tries.nd rfl (.inr rfl) (pe_ix ix_list (pv 1) (pe_ix ix_tup (pv 2) (pv 6) (fun _ _ => rfl)) (fun _ _ => rfl)))
      (pss_cons (ps_expr (pe_bm PySem.F.plainAttrs_list PySem.F.slot_list_append PySem.F.type_list_append mt_append (pv 7) (pa_cons (pe_callTy call_tuple_of (by rfl) T.n_tuple (by decide +kernel) (pa_cons (pe_lc (own := [("_law_m", 12)]) (g := gName 12) (tt := tYes) rfl sc_law_plan_tries.nd (pi_range1 (by rfl) T.n_range (pa_cons (pv 3) pa_nil)) (blkOk_by (own := [("_law_m", 12)]) (N := ["_law_d", "_law_chain", "_law_best", "_law_n", "_law_levels", "_law_total", "_law_k", "_law_found", "_law_row", "_law_level", "_law_turn", "_law_number", "_law_m"]) (sc := (defScope s_law_plan_tries)) (by decide +kernel)) (fun _ _ _ _ _ => (pg_name (i := 12) sc_law_plan_tries.nd rfl (.inl rfl))) (fun _ _ _ _ _ => pts_nil) (fun _ _ _ _ _ => (pe_ifExp (pt_cmpR op_eq (pe_ix (r := rIxL K) ix_list (pv 8) (pv 12) (fun _ _ => rfl)) (pe_ix (r := rIxL K) ix_list (pv 8) (pv 6) (fun _ _ => rfl)) (nomark _)) (pe_callB (call_max2 (by rfl)) (by rfl) T.n_max (by decide +kernel) (pa_cons pe_int (pa_cons (pe_op op_sub (pe_ix (r := rIxT K) ix_tup (pv 2) (pv 12) (fun _ _ => rfl)) pe_int) pa_nil))) (pe_ix (r := rIxT K) ix_tup (pv 2) (pv 12) (fun _ _ => rfl))))) pa_nil)) pa_nil)))
      (pss_one (ps_for PassesOwn.never rfl (pi_range1 (by rfl) T.n_range (pa_cons (pv 4) pa_nil)) (pg_name (i := 9) sc_law_plan_tries.nd rfl (.inr rfl)) (pss_cons (ps_set (i := 8) sc_law_plan_tries.nd rfl (.inr rfl) (pe_ix ix_list (pv 1) (pv 9) (fun _ _ => rfl)))
      (pss_one (ps_expr (pe_bm PySem.F.plainAttrs_list PySem.F.slot_list_append PySem.F.type_list_append mt_append (pv 7) (pa_cons (pe_callTy call_tuple_of (by rfl) T.n_tuple (by decide +kernel) (pa_cons (pe_lc (own := [("_law_m", 12)]) (g := gName 12) (tt := tYes) rfl sc_law_plan_tries.nd (pi_range1 (by rfl) T.n_range (pa_cons (pv 3) pa_nil)) (blkOk_by (own := [("_law_m", 12)]) (N := ["_law_d", "_law_chain", "_law_best", "_law_n", "_law_levels", "_law_total", "_law_k", "_law_found", "_law_row", "_law_level", "_law_turn", "_law_number", "_law_m"]) (sc := (defScope s_law_plan_tries)) (by decide +kernel)) (fun _ _ _ _ _ => (pg_name (i := 12) sc_law_plan_tries.nd rfl (.inl rfl))) (fun _ _ _ _ _ => pts_nil) (fun _ _ _ _ _ => (pe_ifExp (pt_cmpR op_eq (pe_ix (r := rIxL K) ix_list (pv 8) (pv 12) (fun _ _ => rfl)) (pe_ix (r := rIxL K) ix_list (pv 8) (pv 6) (fun _ _ => rfl)) (nomark _)) (pv 9) (pe_ix (r := rIxT K) ix_tup (pv 2) (pv 12) (fun _ _ => rfl))))) pa_nil)) pa_nil))))))))))
      (pss_cons (ps_for PassesOwn.never rfl (pi_range1 (by rfl) T.n_range (pa_cons pe_int pa_nil)) (pg_name (i := 10) sc_law_plan_tries.nd rfl (.inl rfl)) (pss_one (ps_expr (pe_bm PySem.F.plainAttrs_list PySem.F.slot_list_append PySem.F.type_list_append mt_append (pv 7) (pa_cons (pe_callTy call_tuple_of (by rfl) T.n_tuple (by decide +kernel) (pa_cons (pe_lc (own := [("_law_k", 6)]) (g := gName 6) (tt := tYes) rfl sc_law_plan_tries.nd (pi_range1 (by rfl) T.n_range (pa_cons (pv 3) pa_nil)) (blkOk_by (own := [("_law_k", 6)]) (N := ["_law_d", "_law_chain", "_law_best", "_law_n", "_law_levels", "_law_total", "_law_k", "_law_found", "_law_row", "_law_level", "_law_turn", "_law_number", "_law_m"]) (sc := (defScope s_law_plan_tries)) (by decide +kernel)) (fun _ _ _ _ _ => (pg_name (i := 6) sc_law_plan_tries.nd rfl (.inl rfl))) (fun _ _ _ _ _ => pts_nil) (fun _ _ _ _ _ => (pe_call G_law_draw (hr.mono (by decide)) (by rfl) T.D_law_draw.G T.D_law_draw.F.kp T.D_law_draw.B .nil pass0 (pa_cons (pv 0) (pa_cons (pv 4) pa_nil))))) pa_nil)) pa_nil)))))
      (pss_one (ps_ret (pv 7))))))))))), ?_⟩
    obtain ⟨nch, rows, ech, lR, R1, R8, hR⟩ := id hch
    have lr := lR.1
    have evn : V.int ((((pl.map nV).length : Nat)) : Int) = nV n := by rw [List.length_map, lpl]; rfl
    have evl : V.int (((rows.length : Nat)) : Int) = nV R.length := by rw [lr]; rfl
    have hplk : ∀ k, k < n → pl.getD k 0 < R.length := fun k hk => hpl _ (getD_mem (by omega))
    have hrow : ∀ i, i < R.length → ∃ ra, rows[i]? = some (.ref ra) ∧ ra ≠ d ∧ H ra = some (.lst ((R.getD i []).map nV)) ∧ (R.getD i []).length = n := fun i hi => by
      obtain ⟨x, ex, ra, rfl, h1, h2, h3⟩ := lR.get0 [] hi
      exact ⟨ra, ex, h1, h3, (hR _ (getD_mem hi)).1⟩
    refine ⟨_, rfl, p, _, rfl, .inr (SqT.of ep), ?_⟩
    refine ⟨_, rfl, ch, _, rfl, .inl (SqL.of ech), ?_⟩
    generalize V.int ((((pl.map nV).length : Nat)) : Int) = vn at evn
    generalize V.int (((rows.length : Nat)) : Int) = vl at evl
    subst evn
    subst evl
    refine ⟨_, rfl, (n : Int), rfl, by omega, by omega, ?_⟩
    rw [toNat_k]
    refine for_it walk_range (fun i σ' H' => ∃ (x6 : Option V), σ' = [some (.ref d), some (.ref ch), some (.ref p), some (nV n), some (nV R.length), some (nV (R.length ^ i)), x6, none, none, none, none, none, none] ∧ H' = H) ⟨none, rfl, rfl⟩ (fun _ _ _ _ _ => trivial) ?_ ?_
    · rintro i x σ' H11 H12 hi ⟨x6, rfl, rfl⟩ ⟨rfl, hx⟩
      refine ⟨_, rfl, _, rfl, _, _, rfl, rfl, .inr ⟨by omega, by omega⟩, ?_⟩
      have e10 : V.int (((R.length ^ i : Nat) : Int) * ((R.length : Nat) : Int)) = nV (R.length ^ (i + 1)) := by
        rw [Nat.pow_succ]; exact congrArg V.int (Int.natCast_mul _ _).symm
      refine ⟨some x, ?_, rfl⟩
      rw [← e10]; rfl
    · rintro σ' H1 ⟨x6, rfl, rfl⟩
      refine ⟨_, rfl, _, _, rfl, rfl, _, rfl, ite2 (fun c => ?_) (fun _ => ?_)⟩
      · have c := of_decide_eq_true c
        have c64 : R.length ^ n ≤ 64 := by omega
        refine ⟨_, rfl, ((R.length ^ n : Nat) : Int), rfl, by omega, by omega, ?_⟩
        rw [toNat_k]
        refine fun D2 nD2 => ?_
        have nDd := hD.nd nD2
        refine lc_it walk_range (fun i H' => ∃ us : List V, H' D2 = some (.lst us) ∧ us.length = i ∧ (∀ u ∈ us, PlV n R.length H' u) ∧ Same H1 H') ⟨[], upd_same, rfl, (fun _ h => nomatch h), same_upd (Same.refl H1) nD2⟩ (fun _ _ _ _ => trivial) ?_ ?_
        · rintro i x H2 H3 hi ⟨us, eD2, lus, hus, k2⟩ ⟨rfl, hx⟩
          have hx : x = nV i := by rw [hx]; exact int0 i
          subst hx
          refine ⟨rfl, ?_⟩
          refine ⟨_, rfl, _, rfl, _, rfl, i, n, R.length, rfl, R1, by omega, by omega, fun H4 a pl2 k4 e4 l4 h4 => ⟨a, _, rfl, .inl ⟨SqL.of e4, fun t nt => ?_⟩⟩⟩
          have eD4 := k4 _ _ eD2
          have nDt : D2 ≠ t := ne_of_none eD4 nt
          have eDt : upd H4 t (.tup (pl2.map nV)) D2 = some (.lst us) := by rw [upd_ne nDt]; exact eD4
          have tt : TK H3 (upd H4 t (.tup (pl2.map nV))) := (TK.same k4).new nt
          have kt := same_upd (o := .tup (pl2.map nV)) (k2.trans k4) nt
          have ht : PlV n R.length (upd H4 t (.tup (pl2.map nV))) (.ref t) := ⟨pl2, NsR.new, l4, h4⟩
          have hust : ∀ u ∈ us, PlV n R.length (upd H4 t (.tup (pl2.map nV))) u := fun u hu => (hus u hu).to tt
          generalize upd H4 t (.tup (pl2.map nV)) = H5 at eDt kt ht hust
          have tm : TK H5 (upd H5 D2 (.lst (us ++ [.ref t]))) := TK.mut (TK.refl _) eDt
          refine ⟨us, eDt, szN (by omega), us ++ [.ref t], upd_same, by rw [List.length_append, lus]; rfl, ?_, same_mut kt nD2⟩
          exact snoc_all (fun u hu => (hust u hu).to tm) (ht.to tm)
        · rintro H2 ⟨us, eD2, lus, hus, k2⟩
          exact q H2 D2 us (Kp.of_same k2) (hD.keep k2) nDd.1 eD2 (by omega) hus
      · refine ⟨_, rfl, by show 1 ≤ sizeLine; decide, fun B nB => ?_⟩
        have kB := same_upd (o := .lst [.ref p]) (Same.refl H1) nB
        have eB : upd H1 B (.lst [.ref p]) B = some (.lst [.ref p]) := upd_same
        generalize upd H1 B (.lst [.ref p]) = H2 at kB eB
        refine ⟨_, rfl, (R.length : Int), rfl, by omega, by omega, ?_⟩
        rw [toNat_k]
        refine fun D2 nD2 => ?_
        have nDd := hD.nd (none_same kB nD2)
        refine lc_it walk_range (fun i H' => ∃ us : List V, H' D2 = some (.lst us) ∧ us.length = i ∧ (∀ u ∈ us, PlV n R.length H' u) ∧ Same H2 H') ⟨[], upd_same, rfl, (fun _ h => nomatch h), same_upd (Same.refl H2) nD2⟩ (fun _ _ _ _ => trivial) ?_ ?_
        · rintro i x H3 H4 hi ⟨us, eD2, lus, hus, k3⟩ ⟨rfl, hx⟩
          have hx : x = nV i := by rw [hx]; exact int0 i
          subst hx
          refine ⟨rfl, ?_⟩
          refine ⟨_, rfl, by show 1 ≤ sizeLine; decide, fun t nt => ⟨_, rfl, t, (n : Int), [nV i], rfl, rfl, SqT.of upd_same, by simp, by omega, by omega, by simp, fun z => ?_, fun _ p2 np2 => ?_⟩⟩
          · have nDt : D2 ≠ t := ne_of_none eD2 nt
            have z : n = 1 := by omega
            have eDt : upd H4 t (.tup [nV i]) D2 = some (.lst us) := by rw [upd_ne nDt]; exact eD2
            have tt : TK H4 (upd H4 t (.tup [nV i])) := (TK.refl H4).new nt
            have kt := same_upd (o := .tup [nV i]) k3 nt
            have ht : PlV n R.length (upd H4 t (.tup [nV i])) (.ref t) := ⟨[i], ⟨t, rfl, upd_same⟩, z.symm, fun x hx => by rw [List.mem_singleton.mp hx]; exact hi⟩
            have hust : ∀ u ∈ us, PlV n R.length (upd H4 t (.tup [nV i])) u := fun u hu => (hus u hu).to tt
            generalize upd H4 t (.tup [nV i]) = H5 at eDt kt ht hust
            have tm : TK H5 (upd H5 D2 (.lst (us ++ [.ref t]))) := TK.mut (TK.refl _) eDt
            refine ⟨us, eDt, szN (by omega), us ++ [.ref t], upd_same, by rw [List.length_append, lus]; rfl, ?_, same_mut kt nD2⟩
            exact snoc_all (fun u hu => (hust u hu).to tm) (ht.to tm)
          · rw [toNat_k, rep_one]
            have nDt : D2 ≠ t := ne_of_none eD2 nt
            have eDt : upd H4 t (.tup [nV i]) D2 = some (.lst us) := by rw [upd_ne nDt]; exact eD2
            have tt : TK H4 (upd H4 t (.tup [nV i])) := (TK.refl H4).new nt
            have kt := same_upd (o := .tup [nV i]) k3 nt
            have hust : ∀ u ∈ us, PlV n R.length (upd H4 t (.tup [nV i])) u := fun u hu => (hus u hu).to tt
            generalize upd H4 t (.tup [nV i]) = H5 at eDt kt hust np2
            have nDp : D2 ≠ p2 := ne_of_none eDt np2
            have eDp : upd H5 p2 (.tup ((List.replicate n i).map nV)) D2 = some (.lst us) := by rw [upd_ne nDp]; exact eDt
            have tp : TK H5 (upd H5 p2 (.tup ((List.replicate n i).map nV))) := (TK.refl H5).new np2
            have kp := same_upd (o := .tup ((List.replicate n i).map nV)) kt np2
            have ht : PlV n R.length (upd H5 p2 (.tup ((List.replicate n i).map nV))) (.ref p2) := ⟨List.replicate n i, NsR.new, List.length_replicate .., fun x hx => by rw [(List.mem_replicate.mp hx).2]; exact hi⟩
            have husp : ∀ u ∈ us, PlV n R.length (upd H5 p2 (.tup ((List.replicate n i).map nV))) u := fun u hu => (hust u hu).to tp
            generalize upd H5 p2 (.tup ((List.replicate n i).map nV)) = H6 at eDp kp ht husp
            have tm : TK H6 (upd H6 D2 (.lst (us ++ [.ref p2]))) := TK.mut (TK.refl _) eDp
            refine ⟨us, eDp, szN (by omega), us ++ [.ref p2], upd_same, by rw [List.length_append, lus]; rfl, ?_, same_mut kp nD2⟩
            exact snoc_all (fun u hu => (husp u hu).to tm) (ht.to tm)
        · rintro H3 ⟨us0, eD2, lus, hus, k3⟩
          have eB3 := k3 _ _ eB
          refine ⟨B, D2, _, us0, rfl, rfl, eB3, eD2, Nat.le_of_lt (szN (by show 1 + us0.length < 100000; omega)), fun S nS => ?_⟩
          have kS := same_upd (o := .lst ([V.ref p] ++ us0)) (kB.trans k3) nS
          have nSd := hD.nd (none_same (kB.trans k3) nS)
          have nSH := none_same (kB.trans k3) nS
          have eS : upd H3 S (.lst ([V.ref p] ++ us0)) S = some (.lst ([V.ref p] ++ us0)) := upd_same
          have hS : ∀ u ∈ [V.ref p] ++ us0, PlV n R.length (upd H3 S (.lst ([V.ref p] ++ us0))) u := fun u hu => by
            rcases List.mem_append.mp hu with h | h
            · rw [List.mem_singleton.mp h]
              exact PlV.to ⟨pl, ⟨p, rfl, ep⟩, lpl, hpl⟩ (TK.same kS)
            · exact (hus u h).to (TK.new (TK.refl _) nS)
          have lS : ([V.ref p] ++ us0).length ≤ 6 := by rw [List.length_append]; show 1 + us0.length ≤ 6; omega
          generalize upd H3 S (.lst ([V.ref p] ++ us0)) = H4 at kS eS hS
          generalize [V.ref p] ++ us0 = us1 at eS hS lS
          have D4 := hD.keep kS
          refine ⟨_, rfl, (n : Int), rfl, by omega, by omega, ?_⟩
          rw [toNat_k]
          -- tuples of levels, by a comprehension over the places
          refine for_it walk_range (fun i σ' H' => ∃ (us : List V) (x6 x8 x9 : Option V), σ' = [some (.ref d), some (.ref ch), some (.ref p), some (nV n), some (nV R.length), some (nV (R.length ^ n)), x6, some (.ref S), x8, x9, none, none, none] ∧ Kp d H1 H' ∧ DI d l H' ∧ H' S = some (.lst us) ∧ us.length ≤ 6 + i * 6 ∧ ∀ u ∈ us, PlV n R.length H' u) ⟨us1, _, _, _, rfl, Kp.of_same kS, D4, eS, by omega, hS⟩ (fun _ _ _ _ _ => trivial) ?_ ?_
          · rintro k x σ' H5 H6 hk ⟨us, x6, x8, x9, rfl, k5, D5, eS5, l5, h5⟩ ⟨rfl, hx⟩
            have hx : x = nV k := by rw [hx]; exact int0 k
            subst hx
            have ep5 := kpTup hD k5 _ _ ep
            have ech5 := k5 _ _ nch ech
            have gk := atI_nat (nat_at (xs := pl) (i := k) (by omega))
            have hlk := hplk k hk
            obtain ⟨ra, era, nra, hra, lra⟩ := hrow _ hlk
            have hra5 := k5 _ _ nra hra
            generalize R.getD (pl.getD k 0) [] = row at hra5 lra
            refine ⟨_, rfl, _, rfl, _, rfl, p, _, _, _, rfl, rfl, SqT.of ep5, gk, ch, _, _, _, rfl, rfl, SqL.of ech5, atI_nat era, ?_⟩
            refine ⟨.ref S, rfl, .inl ⟨rfl, _, .inl (.inl eS5)⟩, ?_⟩
            refine ⟨_, rfl, (n : Int), rfl, by omega, by omega, ?_⟩
            rw [toNat_k]
            refine fun D6 nD6 => ?_
            refine lc_it walk_range (fun j H' => ∃ ds : List Nat, H' D6 = some (.lst (ds.map nV)) ∧ ds.length = j ∧ (∀ x ∈ ds, x < R.length) ∧ Same H6 H') ⟨[], upd_same, rfl, (fun _ h => nomatch h), same_upd (Same.refl H6) nD6⟩ (fun _ _ _ _ => trivial) ?_ ?_
            · rintro j x H7 H8 hj ⟨ds, eD6, lds, hds, k7⟩ ⟨rfl, hx⟩
              have hx : x = nV j := by rw [hx]; exact int0 j
              subst hx
              have gj := atI_nat (nat_at (xs := row) (i := j) (by omega))
              have gk2 := atI_nat (nat_at (xs := row) (i := k) (by omega))
              have pj := atI_nat (nat_at (xs := pl) (i := j) (by omega))
              have hlj := hplk j hj
              generalize pl.getD j 0 = bj at pj hlj
              refine ⟨rfl, ?_⟩
              refine ⟨_, rfl, _, rfl, ra, _, _, _, rfl, rfl, SqL.of (k7 _ _ hra5), gj, _, rfl, _, rfl, ra, _, _, _, rfl, rfl, SqL.of (k7 _ _ hra5), gk2, rfl, ?_⟩
              by_cases c : row.getD j 0 = row.getD k 0
              · refine ⟨true, bTr (congrArg nV c), ?_⟩
                refine ⟨_, rfl, _, rfl, p, _, _, _, rfl, rfl, SqT.of (k7 _ _ ep5), pj, _, _, rfl, rfl, _, _, rfl, ?_⟩
                have em : V.int (if (bj : Int) - 1 > 0 then (bj : Int) - 1 else 0) = nV (bj - 1) := congrArg V.int (by split <;> omega)
                refine ⟨_, eD6, szN (by rw [List.length_map]; omega), ds ++ [bj - 1], by rw [upd_same, List.map_append, List.map_cons, List.map_nil, ← em], by rw [List.length_append, lds]; rfl, snoc_lt hds (by omega), same_mut k7 nD6⟩
              · refine ⟨false, bFa (fun z => c (nV_inj z)), ?_⟩
                refine ⟨_, rfl, _, rfl, p, _, _, _, rfl, rfl, SqT.of (k7 _ _ ep5), pj, ?_⟩
                exact ⟨_, eD6, szN (by rw [List.length_map]; omega), ds ++ [bj], by rw [upd_same, List.map_append]; rfl, by rw [List.length_append, lds]; rfl, snoc_lt hds hlj, same_mut k7 nD6⟩
            · rintro H7 ⟨ds, eD6, lds, hds, k7⟩
              refine ⟨D6, _, rfl, .inl ⟨SqL.of eD6, fun t nt => ?_⟩⟩
              have k8 : Kp d H1 (upd H7 t (.tup (ds.map nV))) := (k5.trans (Kp.of_same k7)).new nt
              have D8 : DI d l (upd H7 t (.tup (ds.map nV))) := (D5.keep k7).new nt
              have eS8 : upd H7 t (.tup (ds.map nV)) S = some (.lst us) := by rw [upd_ne (ne_of_none (k7 _ _ eS5) nt)]; exact k7 _ _ eS5
              have ht : PlV n R.length (upd H7 t (.tup (ds.map nV))) (.ref t) := ⟨ds, NsR.new, lds, hds⟩
              have h8 : ∀ u ∈ us, PlV n R.length (upd H7 t (.tup (ds.map nV))) u := fun u hu => (h5 u hu).to ((TK.same k7).new nt)
              generalize upd H7 t (.tup (ds.map nV)) = H8 at k8 D8 eS8 ht h8
              have tm : TK H8 (upd H8 S (.lst (us ++ [.ref t]))) := TK.mut (TK.refl _) eS8
              refine ⟨S, _, _, rfl, rfl, eS8, szN (by omega), ?_⟩
              have k9 := k8.mut (o := .lst (us ++ [.ref t])) nSH
              have D9 := D8.at (o := .lst (us ++ [.ref t])) nSd.1 nSd.2
              have eS9 : upd H8 S (.lst (us ++ [.ref t])) S = some (.lst (us ++ [.ref t])) := upd_same
              have h9 : ∀ u ∈ us ++ [.ref t], PlV n R.length (upd H8 S (.lst (us ++ [.ref t]))) u := snoc_all (fun u hu => (h8 u hu).to tm) (ht.to tm)
              have l9 : (us ++ [V.ref t]).length ≤ 7 + k * 6 := by rw [List.length_append]; show us.length + 1 ≤ _; omega
              generalize upd H8 S (.lst (us ++ [.ref t])) = H9 at k9 D9 eS9 h9
              generalize us ++ [V.ref t] = us9 at eS9 h9 l9
              refine ⟨_, rfl, (R.length : Int), rfl, by omega, by omega, ?_⟩
              rw [toNat_k]
              refine for_it walk_range (fun j σ' H' => ∃ (us : List V) (x8 x9 : Option V), σ' = [some (.ref d), some (.ref ch), some (.ref p), some (nV n), some (nV R.length), some (nV (R.length ^ n)), some (nV k), some (.ref S), x8, x9, none, none, none] ∧ Kp d H1 H' ∧ DI d l H' ∧ H' S = some (.lst us) ∧ us.length ≤ 7 + k * 6 + j ∧ ∀ u ∈ us, PlV n R.length H' u) ⟨us9, _, _, rfl, k9, D9, eS9, by omega, h9⟩ (fun _ _ _ _ _ => trivial) ?_ ?_
              · rintro lv x σ' H10 H11 hlv ⟨us, x8, x9, rfl, k10, D10, eS10, l10, h10⟩ ⟨rfl, hx⟩
                have hx : x = nV lv := by rw [hx]; exact int0 lv
                subst hx
                have ep10 := kpTup hD k10 _ _ ep
                have ech10 := k10 _ _ nch ech
                obtain ⟨ra, era, nra, hra, lra⟩ := hrow _ hlv
                have hra10 := k10 _ _ nra hra
                generalize R.getD lv [] = row at hra10 lra
                refine ⟨_, rfl, _, rfl, ch, _, _, _, rfl, rfl, SqL.of ech10, atI_nat era, ?_⟩
                refine ⟨.ref S, rfl, .inl ⟨rfl, _, .inl (.inl eS10)⟩, ?_⟩
                refine ⟨_, rfl, (n : Int), rfl, by omega, by omega, ?_⟩
                rw [toNat_k]
                refine fun D6 nD6 => ?_
                refine lc_it walk_range (fun j H' => ∃ ds : List Nat, H' D6 = some (.lst (ds.map nV)) ∧ ds.length = j ∧ (∀ x ∈ ds, x < R.length) ∧ Same H11 H') ⟨[], upd_same, rfl, (fun _ h => nomatch h), same_upd (Same.refl H11) nD6⟩ (fun _ _ _ _ => trivial) ?_ ?_
                · rintro j x H7 H8 hj ⟨ds, eD6, lds, hds, k7⟩ ⟨rfl, hx⟩
                  have hx : x = nV j := by rw [hx]; exact int0 j
                  subst hx
                  have gj := atI_nat (nat_at (xs := row) (i := j) (by omega))
                  have gk2 := atI_nat (nat_at (xs := row) (i := k) (by omega))
                  have pj := atI_nat (nat_at (xs := pl) (i := j) (by omega))
                  have hlj := hplk j hj
                  generalize pl.getD j 0 = bj at pj hlj
                  refine ⟨rfl, ?_⟩
                  refine ⟨_, rfl, _, rfl, ra, _, _, _, rfl, rfl, SqL.of (k7 _ _ hra10), gj, _, rfl, _, rfl, ra, _, _, _, rfl, rfl, SqL.of (k7 _ _ hra10), gk2, rfl, ?_⟩
                  by_cases c : row.getD j 0 = row.getD k 0
                  · refine ⟨true, bTr (congrArg nV c), ?_⟩
                    exact ⟨_, rfl, _, eD6, szN (by rw [List.length_map]; omega), ds ++ [lv], by rw [upd_same, List.map_append]; rfl, by rw [List.length_append, lds]; rfl, snoc_lt hds hlv, same_mut k7 nD6⟩
                  · refine ⟨false, bFa (fun z => c (nV_inj z)), ?_⟩
                    refine ⟨_, rfl, _, rfl, p, _, _, _, rfl, rfl, SqT.of (k7 _ _ ep10), pj, ?_⟩
                    exact ⟨_, eD6, szN (by rw [List.length_map]; omega), ds ++ [bj], by rw [upd_same, List.map_append]; rfl, by rw [List.length_append, lds]; rfl, snoc_lt hds hlj, same_mut k7 nD6⟩
                · rintro H7 ⟨ds, eD6, lds, hds, k7⟩
                  refine ⟨D6, _, rfl, .inl ⟨SqL.of eD6, fun t nt => ?_⟩⟩
                  have k8 : Kp d H1 (upd H7 t (.tup (ds.map nV))) := (k10.trans (Kp.of_same k7)).new nt
                  have D8 : DI d l (upd H7 t (.tup (ds.map nV))) := (D10.keep k7).new nt
                  have eS8 : upd H7 t (.tup (ds.map nV)) S = some (.lst us) := by rw [upd_ne (ne_of_none (k7 _ _ eS10) nt)]; exact k7 _ _ eS10
                  have ht : PlV n R.length (upd H7 t (.tup (ds.map nV))) (.ref t) := ⟨ds, NsR.new, lds, hds⟩
                  have h8 : ∀ u ∈ us, PlV n R.length (upd H7 t (.tup (ds.map nV))) u := fun u hu => (h10 u hu).to ((TK.same k7).new nt)
                  generalize upd H7 t (.tup (ds.map nV)) = H8 at k8 D8 eS8 ht h8
                  have tm : TK H8 (upd H8 S (.lst (us ++ [.ref t]))) := TK.mut (TK.refl _) eS8
                  refine ⟨S, _, _, rfl, rfl, eS8, szN (by omega), ?_⟩
                  exact ⟨us ++ [.ref t], _, _, rfl, k8.mut nSH, D8.at nSd.1 nSd.2, upd_same, by rw [List.length_append]; show us.length + 1 ≤ _; omega, snoc_all (fun u hu => (h8 u hu).to tm) (ht.to tm)⟩
              · rintro σ' H10 ⟨us, x8, x9, rfl, k10, D10, eS10, l10, h10⟩
                exact ⟨us, _, _, _, rfl, k10, D10, eS10, by omega, h10⟩
          · rintro σ' H5 ⟨us, x6, x8, x9, rfl, k5, D5, eS5, l5, h5⟩
            refine ⟨6, rfl, by omega, by omega, ?_⟩
            refine for_it walk_range (fun j σ' H' => ∃ (us : List V) (x10 : Option V), σ' = [some (.ref d), some (.ref ch), some (.ref p), some (nV n), some (nV R.length), some (nV (R.length ^ n)), x6, some (.ref S), x8, x9, x10, none, none] ∧ Kp d H1 H' ∧ DI d l H' ∧ H' S = some (.lst us) ∧ us.length ≤ 6 + n * 6 + j ∧ ∀ u ∈ us, PlV n R.length H' u) ⟨us, _, rfl, k5, D5, eS5, by omega, h5⟩ (fun _ _ _ _ _ => trivial) ?_ ?_
            · rintro j x σ' H10 H11 hj ⟨us, x10, rfl, k10, D10, eS10, l10, h10⟩ ⟨rfl, hx⟩
              refine ⟨.ref S, rfl, .inl ⟨rfl, _, .inl (.inl eS10)⟩, ?_⟩
              refine ⟨_, rfl, (n : Int), rfl, by omega, by omega, ?_⟩
              rw [toNat_k]
              refine fun D6 nD6 => ?_
              have nD6d := D10.nd nD6
              refine lc_it walk_range (fun j H' => ∃ ds : List Nat, H' D6 = some (.lst (ds.map nV)) ∧ ds.length = j ∧ (∀ x ∈ ds, x < R.length) ∧ Kp d H11 H' ∧ DI d l H') ⟨[], upd_same, rfl, (fun _ h => nomatch h), (Kp.refl d H11).new nD6, D10.new nD6⟩ (fun _ _ _ _ => trivial) ?_ ?_
              · rintro j x H7 H8 hj ⟨ds, eD6, lds, hds, k7, D7⟩ ⟨rfl, hx⟩
                refine ⟨rfl, ?_⟩
                refine ⟨_, rfl, _, rfl, d, l, (R.length : Int), rfl, D7, by omega, fun H9 r k9 D9 a1 a2 => ?_⟩
                obtain ⟨g, rfl, hg⟩ := draw_nt (by omega) a1 a2
                exact ⟨_, k9 _ _ nD6d.1 eD6, szN (by rw [List.length_map]; omega), ds ++ [g], by rw [upd_same, List.map_append]; rfl, by rw [List.length_append, lds]; rfl, snoc_lt hds (by omega), (k7.trans k9).mut nD6, D9.at nD6d.1 nD6d.2⟩
              · rintro H7 ⟨ds, eD6, lds, hds, k7, D7⟩
                refine ⟨D6, _, rfl, .inl ⟨SqL.of eD6, fun t nt => ?_⟩⟩
                have k8 : Kp d H1 (upd H7 t (.tup (ds.map nV))) := (k10.trans k7).new nt
                have D8 : DI d l (upd H7 t (.tup (ds.map nV))) := D7.new nt
                have eS7 := k7 _ _ nSd.1 eS10
                have eS8 : upd H7 t (.tup (ds.map nV)) S = some (.lst us) := by rw [upd_ne (ne_of_none eS7 nt)]; exact eS7
                have ht : PlV n R.length (upd H7 t (.tup (ds.map nV))) (.ref t) := ⟨ds, NsR.new, lds, hds⟩
                have h8 : ∀ u ∈ us, PlV n R.length (upd H7 t (.tup (ds.map nV))) u := fun u hu => (h10 u hu).to (TK.new (kpTup D10 k7) nt)
                generalize upd H7 t (.tup (ds.map nV)) = H8 at k8 D8 eS8 ht h8
                have tm : TK H8 (upd H8 S (.lst (us ++ [.ref t]))) := TK.mut (TK.refl _) eS8
                refine ⟨S, _, _, rfl, rfl, eS8, szN (by omega), ?_⟩
                exact ⟨us ++ [.ref t], _, rfl, k8.mut nSH, D8.at nSd.1 nSd.2, upd_same, by rw [List.length_append]; show us.length + 1 ≤ _; omega, snoc_all (fun u hu => (h8 u hu).to tm) (ht.to tm)⟩
            · rintro σ' H10 ⟨us, x10, rfl, k10, D10, eS10, l10, h10⟩
              exact ⟨_, rfl, q _ S us k10 D10 nSd.1 eS10 (by omega) h10⟩
end
end Vf

set_option Elab.async false
set_option linter.all false
set_option maxRecDepth 100000
set_option maxHeartbeats 4000000
namespace Vf
open PySem PySem.Spec PyProof.Rows L2 TL
/-- a paper of any rows of ints: not too long -/
def PpI (m : Nat) (H : Hp) (u : V) : Prop := ∃ a us, u = .ref a ∧ H a = some (.tup us) ∧ us.length ≤ m ∧ ∀ x ∈ us, ItV 100 H x
theorem PpI.to {m : Nat} {H H' : Hp} {u : V} (h : PpI m H u) (k : TK H H') : PpI m H' u := by
  obtain ⟨a, us, e, e1, l, h⟩ := h
  exact ⟨a, us, e, k _ _ e1, l, fun x hx => (h x hx).to k⟩
theorem PpI.tup {m : Nat} {H : Hp} {u : V} (h : PpI m H u) : ∃ paper : List (List Int), TupR IsR H u paper ∧ paper.length ≤ m ∧ ∀ r ∈ paper, r.length ≤ 100 := by
  obtain ⟨a, us, rfl, e1, l, h⟩ := h
  obtain ⟨rs, lv, hp⟩ := all_LV (R := IsR H) (P := fun r => r.length ≤ 100) us h
  exact ⟨rs, ⟨a, us, rfl, e1, lv⟩, by rw [← lv.1]; exact l, hp⟩
theorem R3.it {H : Hp} {v : V} (h : R3 H v) : ItV 100 H v := by
  obtain ⟨r, ⟨a, rfl, e⟩, l⟩ := h
  exact ⟨toI r, ⟨a, rfl, by rw [e]; unfold toI; rw [List.map_map]; rfl⟩, by unfold toI; rw [List.length_map]; omega⟩
theorem PpV.pi {H : Hp} {u : V} (h : PpV H u) : PpI 100 H u := by
  obtain ⟨a, us, e, e1, l, h⟩ := h
  exact ⟨a, us, e, e1, by omega, fun x hx => (h x hx).it⟩
theorem cut_mem {xs : List V} {lo hi : Option Int} : ∀ x ∈ cutV xs lo hi, x ∈ xs := fun x hx => List.mem_of_mem_drop (List.mem_of_mem_take hx)
theorem cut_len {xs : List V} {lo hi : Option Int} : (cutV xs lo hi).length ≤ xs.length := by
  unfold cutV
  rw [List.length_take, List.length_drop]; omega
theorem app_all {p : V → Prop} {us vs : List V} (h : ∀ x ∈ us, p x) (hu : ∀ x ∈ vs, p x) : ∀ x ∈ us ++ vs, p x := fun x hx => (List.mem_append.mp hx).elim (h x) (hu x)
theorem putP {d l A b : Addr} {H H9 H10 : Hp} {vs us2 : List V} {m : Nat} (nAH : H A = none) (nAd : A ≠ d ∧ A ≠ l) (k9 : Kp d H H9) (D9 : DI d l H9) (eA : H9 A = some (.lst vs)) (lvs : vs.length ≤ m) (hvs : ∀ u ∈ vs, PpI 100 H9 u) (k10 : Kp d H9 H10) (D10 : DI d l H10) (eb : H10 b = some (.tup us2)) (lb : us2.length ≤ 100) (hb : ∀ x ∈ us2, ItV 100 H10 x) :
    H10 A = some (.lst vs) ∧ Kp d H (upd H10 A (.lst (vs ++ [.ref b]))) ∧ DI d l (upd H10 A (.lst (vs ++ [.ref b]))) ∧ upd H10 A (.lst (vs ++ [.ref b])) A = some (.lst (vs ++ [.ref b])) ∧ (vs ++ [V.ref b]).length ≤ m + 1 ∧ ∀ u ∈ vs ++ [.ref b], PpI 100 (upd H10 A (.lst (vs ++ [.ref b]))) u := by
  have eA10 := k10 _ _ nAd.1 eA
  have tm : TK H10 (upd H10 A (.lst (vs ++ [.ref b]))) := TK.mut (TK.refl _) eA10
  exact ⟨eA10, (k9.trans k10).mut nAH, D10.at nAd.1 nAd.2, upd_same, by rw [List.length_append]; exact Nat.succ_le_succ lvs, snoc_all (fun u hu => (hvs u hu).to (TK.trans (kpTup D9 k10) tm)) (PpI.to ⟨b, us2, rfl, eb, lb, hb⟩ tm)⟩
section
variable {P : Program} {w : World} {K : PySem.W.Frag} {mg : Str → Option Value} {base : Heap}
def spSpoilt : Sp := fun vs H Q _ => ∃ (d l sz : Addr) (u : V) (i1 i2 i3 : Int), vs = [.ref d, u, .ref sz] ∧ DI d l H ∧ PpV H u ∧ sz ≠ d ∧ H sz = some (.lst [.int i1, .int i2, .int i3]) ∧
  ∀ H' a us, Kp d H H' → DI d l H' → a ≠ d → H' a = some (.lst us) → us.length ≤ 500 → (∀ u ∈ us, PpI 100 H' u) → Q (.ref a) H'
theorem ok_spoilt (T : Txt K mg) : FnOk P w K mg base CX0 4 T.a_law_plan_spoilt T.d_law_plan_spoilt ["_law_d", "_law_paper", "_law_sizes"] spSpoilt := by
  have G_law_plan_bad : FnOk P w K mg base CX0 3 T.a_law_plan_bad T.d_law_plan_bad ["_law_d", "_law_right", "_law_many"] spBad := ok_bad T
  refine T.D_law_plan_spoilt.F.ok sc_law_plan_spoilt (fun vs H Q E h => ?_) (fun cdv A outer s H vs Q E hr h => ?_)
  · obtain ⟨d, l, sz, u, i1, i2, i3, rfl, _⟩ := h
    rfl
  · obtain ⟨d, l, sz, u, i1, i2, i3, rfl, hD, ⟨p, us, rfl, ep, l24, h3⟩, nsz, esz, q⟩ := h
    refine ⟨_, (pss_cons (ps_set (i := 3) sc_law_plan_spoilt.nd rfl (.inl rfl) (pe_lst (pa_cons (pe_op op_catA (pv 1) (pe_tup (pa_cons (pe_tup (pa_cons pe_int (pa_cons pe_int (pa_cons pe_int pa_nil)))) pa_nil))) (pa_cons (pe_op op_catA (pe_tup (pa_cons (pe_tup (pa_cons pe_int (pa_cons pe_int (pa_cons pe_int pa_nil)))) pa_nil)) (pv 1)) (pa_cons (pe_op op_catA (pe_slice sl_tupA (pv 1) (po_some pe_int) po_none) (pe_slice sl_tupA (pv 1) po_none (po_some pe_int))) pa_nil)))))
      (pss_cons (ps_for PassesOwn.never rfl (pi_range1 (by rfl) T.n_range (pa_cons (pe_callB call_len_seq (by rfl) T.n_len PySem.boot_len (pa_cons (pv 1) pa_nil)) pa_nil)) (pg_name (i := 4) sc_law_plan_spoilt.nd rfl (.inl rfl)) (pss_cons (ps_expr (pe_bm PySem.F.plainAttrs_list PySem.F.slot_list_append PySem.F.type_list_append mt_append (pv 3) (pa_cons (pe_op op_catA (pe_slice sl_tupA (pv 1) po_none (po_some (pv 4))) (pe_slice sl_tupA (pv 1) (po_some (pe_op op_add (pv 4) pe_int)) po_none)) pa_nil)))
      (pss_cons (ps_expr (pe_bm PySem.F.plainAttrs_list PySem.F.slot_list_append PySem.F.type_list_append mt_append (pv 3) (pa_cons (pe_op op_catA (pe_slice sl_tupA (pv 1) po_none (po_some (pe_op op_add (pv 4) pe_int))) (pe_slice sl_tupA (pv 1) (po_some (pv 4)) po_none)) pa_nil)))
      (pss_cons (ps_expr (pe_bm PySem.F.plainAttrs_list PySem.F.slot_list_append PySem.F.type_list_append mt_append (pv 3) (pa_cons (pe_op op_catA (pe_op op_catA (pe_slice sl_tupA (pv 1) po_none (po_some (pv 4))) (pe_tup (pa_cons (pe_slice sl_tupA (pe_ix ix_tup (pv 1) (pv 4) (fun _ _ => rfl)) po_none (po_some pe_int)) pa_nil))) (pe_slice sl_tupA (pv 1) (po_some (pe_op op_add (pv 4) pe_int)) po_none)) pa_nil)))
      (pss_cons (ps_expr (pe_bm PySem.F.plainAttrs_list PySem.F.slot_list_append PySem.F.type_list_append mt_append (pv 3) (pa_cons (pe_op op_catA (pe_op op_catA (pe_slice sl_tupA (pv 1) po_none (po_some (pv 4))) (pe_tup (pa_cons (pe_op op_catA (pe_ix ix_tup (pv 1) (pv 4) (fun _ _ => rfl)) (pe_tup (pa_cons pe_int pa_nil))) pa_nil))) (pe_slice sl_tupA (pv 1) (po_some (pe_op op_add (pv 4) pe_int)) po_none)) pa_nil)))
      (pss_one (ps_for PassesOwn.never rfl (pi_range1 (by rfl) T.n_range (pa_cons pe_int pa_nil)) (pg_name (i := 5) sc_law_plan_spoilt.nd rfl (.inl rfl)) (pss_cons (ps_set (i := 6) sc_law_plan_spoilt.nd rfl (.inl rfl) (pe_callTy call_list_of (by rfl) T.n_list (by decide +kernel) (pa_cons (pe_ix ix_tup (pv 1) (pv 4) (fun _ _ => rfl)) pa_nil)))
      (pss_cons (ps_asg (pe_call G_law_plan_bad (hr.mono (by decide)) (by rfl) T.D_law_plan_bad.G T.D_law_plan_bad.F.kp T.D_law_plan_bad.B .nil pass0 (pa_cons (pv 0) (pa_cons (pe_ix ix_list (pv 6) (pv 5) (fun _ _ => rfl)) (pa_cons (pe_ix ix_list (pv 2) (pv 5) (fun _ _ => rfl)) pa_nil)))) (pg_sub (pv 6) (pv 5) set_list))
      (pss_one (ps_expr (pe_bm PySem.F.plainAttrs_list PySem.F.slot_list_append PySem.F.type_list_append mt_append (pv 3) (pa_cons (pe_op op_catA (pe_op op_catA (pe_slice sl_tupA (pv 1) po_none (po_some (pv 4))) (pe_tup (pa_cons (pe_callTy call_tuple_of (by rfl) T.n_tuple (by decide +kernel) (pa_cons (pv 6) pa_nil)) pa_nil))) (pe_slice sl_tupA (pv 1) (po_some (pe_op op_add (pv 4) pe_int)) po_none)) pa_nil)))))))))))))
      (pss_one (ps_ret (pv 3))))), ?_⟩
    have big : ∀ m, m ≤ 90000 → m ≤ sizeLine := fun m h => Nat.le_of_lt (szN (by omega))
    have hIt : ∀ x ∈ us, ItV 100 H x := fun x hx => (h3 x hx).it
    -- paper + ((0, 0, 0),)
    refine ⟨_, rfl, by show 3 ≤ sizeLine; decide, fun z1 nz1 => ⟨by show 1 ≤ sizeLine; decide, fun t1 nt1 => ?_⟩⟩
    have k1 := same_upd (o := .tup [.ref z1]) (same_upd (o := .tup [.int 0, .int 0, .int 0]) (Same.refl H) nz1) nt1
    have t1e : upd (upd H z1 (.tup [.int 0, .int 0, .int 0])) t1 (.tup [.ref z1]) t1 = some (.tup [.ref z1]) := upd_same
    have hz1 : ItV 100 (upd (upd H z1 (.tup [.int 0, .int 0, .int 0])) t1 (.tup [.ref z1])) (.ref z1) := ⟨[0, 0, 0], ⟨z1, rfl, by rw [upd_ne (ne_of_none (o := .tup [.int 0, .int 0, .int 0]) upd_same nt1)]; exact upd_same⟩, by show 3 ≤ 100; decide⟩
    generalize upd (upd H z1 (.tup [.int 0, .int 0, .int 0])) t1 (.tup [.ref z1]) = H1 at k1 t1e hz1
    have ep1 := k1 _ _ ep
    refine catA_any ep1 t1e (big _ (by show us.length + 1 ≤ _; omega)) fun b1 H2 k2 e2 => ?_
    have hb1 : PpI 100 H2 (.ref b1) := ⟨b1, _, rfl, e2, by rw [List.length_append]; show us.length + 1 ≤ _; omega, app_all (fun x hx => (hIt x hx).to (TK.same (k1.trans k2))) fun x hx => by rw [List.mem_singleton.mp hx]; exact hz1.to (TK.same k2)⟩
    have k02 := k1.trans k2
    have ep2 := k2 _ _ ep1
    -- ((0, 0, 0),) + paper
    refine ⟨by show 3 ≤ sizeLine; decide, fun z2 nz2 => ⟨by show 1 ≤ sizeLine; decide, fun t2 nt2 => ?_⟩⟩
    have k3 := same_upd (o := .tup [.ref z2]) (same_upd (o := .tup [.int 0, .int 0, .int 0]) (Same.refl H2) nz2) nt2
    have t2e : upd (upd H2 z2 (.tup [.int 0, .int 0, .int 0])) t2 (.tup [.ref z2]) t2 = some (.tup [.ref z2]) := upd_same
    have hz2 : ItV 100 (upd (upd H2 z2 (.tup [.int 0, .int 0, .int 0])) t2 (.tup [.ref z2])) (.ref z2) := ⟨[0, 0, 0], ⟨z2, rfl, by rw [upd_ne (ne_of_none (o := .tup [.int 0, .int 0, .int 0]) upd_same nt2)]; exact upd_same⟩, by show 3 ≤ 100; decide⟩
    generalize upd (upd H2 z2 (.tup [.int 0, .int 0, .int 0])) t2 (.tup [.ref z2]) = H3 at k3 t2e hz2
    have ep3 := k3 _ _ ep2
    have k03 := k02.trans k3
    refine ⟨_, rfl, catA_any t2e ep3 (big _ (by show 1 + us.length ≤ _; omega)) fun b2 H4 k4 e4 => ?_⟩
    have hb2 : PpI 100 H4 (.ref b2) := ⟨b2, _, rfl, e4, by rw [List.length_append]; show 1 + us.length ≤ _; omega, app_all (fun x hx => by rw [List.mem_singleton.mp hx]; exact hz2.to (TK.same k4)) (fun x hx => (hIt x hx).to (TK.same (k03.trans k4)))⟩
    have hb1 := hb1.to (TK.same (k3.trans k4))
    have k04 := k03.trans k4
    have ep4 := k4 _ _ ep3
    -- paper[1:] + paper[:1]
    refine ⟨_, rfl, _, rfl, slA_from ep4 fun b3 H5 k5 e5 => ?_⟩
    have ep5 := k5 _ _ ep4
    refine ⟨_, rfl, _, rfl, slA_any ep5 fun b4 H6 k6 e6 => ?_⟩
    have e5 := k6 _ _ e5
    have c1 := cut_len (xs := us) (lo := some 1) (hi := none)
    have c2 := cut_len (xs := us) (lo := none) (hi := some 1)
    refine catA_any e5 e6 (big _ (by omega)) fun b5 H7 k7 e7 => ?_
    have k57 := k5.trans (k6.trans k7)
    have k07 := k04.trans k57
    have hb3 : PpI 100 H7 (.ref b5) := ⟨b5, _, rfl, e7, by rw [List.length_append]; omega, app_all (fun x hx => (hIt x (cut_mem x hx)).to (TK.same k07)) (fun x hx => (hIt x (cut_mem x hx)).to (TK.same k07))⟩
    have hb1 := hb1.to (TK.same k57)
    have hb2 := hb2.to (TK.same k57)
    refine ⟨by show 3 ≤ sizeLine; decide, fun A nA => ?_⟩
    have nAH := none_same k07 nA
    have nAd := hD.nd nAH
    have D8 := (hD.keep k07).new (o := .lst [.ref b1, .ref b2, .ref b5]) nA
    have k8 := (Kp.of_same k07 : Kp d H H7).new (o := .lst [.ref b1, .ref b2, .ref b5]) nA
    have eA8 : upd H7 A (.lst [.ref b1, .ref b2, .ref b5]) A = some (.lst [.ref b1, .ref b2, .ref b5]) := upd_same
    have tA : TK H7 (upd H7 A (.lst [.ref b1, .ref b2, .ref b5])) := TK.new (TK.refl _) nA
    have h8 : ∀ u ∈ [V.ref b1, .ref b2, .ref b5], PpI 100 (upd H7 A (.lst [.ref b1, .ref b2, .ref b5])) u := fun u hu => by
      simp only [List.mem_cons, List.not_mem_nil, or_false] at hu
      rcases hu with rfl | rfl | rfl
      · exact hb1.to tA
      · exact hb2.to tA
      · exact hb3.to tA
    have l8 : [V.ref b1, .ref b2, .ref b5].length ≤ 3 := Nat.le_refl 3
    generalize upd H7 A (.lst [.ref b1, .ref b2, .ref b5]) = H8 at D8 k8 eA8 h8
    generalize [V.ref b1, .ref b2, .ref b5] = vs0 at eA8 h8 l8
    refine ⟨_, rfl, p, _, rfl, .inr (SqT.of (kpTup hD k8 _ _ ep)), (us.length : Int), rfl, by omega, by omega, ?_⟩
    rw [toNat_k]
    refine for_it walk_range (fun i σ' H' => ∃ (vs : List V) (x4 x5 x6 : Option V), σ' = [some (.ref d), some (.ref p), some (.ref sz), some (.ref A), x4, x5, x6] ∧ Kp d H H' ∧ DI d l H' ∧ H' A = some (.lst vs) ∧ vs.length ≤ 3 + i * 7 ∧ ∀ u ∈ vs, PpI 100 H' u) ⟨vs0, _, _, _, rfl, k8, D8, eA8, by omega, h8⟩ (fun _ _ _ _ _ => trivial) ?_ ?_
    · rintro r x σ' H9 H10 hr2 ⟨vs, x4, x5, x6, rfl, k9, D9, eA9, l9, h9⟩ ⟨rfl, hx⟩
      have hx : x = nV r := by rw [hx]; exact int0 r
      subst hx
      obtain ⟨rw0, erw⟩ : ∃ x, us[r]? = some x := ⟨us[r], List.getElem?_eq_getElem hr2⟩
      have hrw := h3 rw0 (List.mem_of_getElem? erw)
      obtain ⟨rs, ⟨rp, rfl, erp⟩, lrs⟩ := hrw
      have grw := atI_nat erw
      -- without the row
      have ep9 := kpTup hD k9 _ _ ep
      have lc : ∀ {lo hi : Option Int}, (cutV us lo hi).length ≤ 24 := Nat.le_trans cut_len l24
      have hc : ∀ {lo hi : Option Int} {H' : Hp}, TK H H' → ∀ x ∈ cutV us lo hi, ItV 100 H' x := fun t x hx => (hIt x (cut_mem x hx)).to t
      refine ⟨.ref A, rfl, .inl ⟨rfl, _, .inl (.inl eA9)⟩, ?_⟩
      refine ⟨_, rfl, _, rfl, _, rfl, slA_any ep9 fun c1 X1 kx1 ec1 => ?_⟩
      refine ⟨_, rfl, _, rfl, _, _, rfl, rfl, _, rfl, slA_from (kx1 _ _ ep9) fun c2 X2 kx2 ec2 => ?_⟩
      refine catA_any (kx2 _ _ ec1) ec2 (big _ (Nat.le_trans (Nat.add_le_add lc lc) (by decide))) fun c3 X3 kx3 ec3 => ?_
      have kx := kx1.trans (kx2.trans kx3)
      have DX := D9.keep kx
      have tx := TK.trans (kpTup hD k9) (TK.same kx)
      obtain ⟨eA10, k10, D10, eA11, l10, h10⟩ := putP nAH nAd k9 D9 eA9 l9 h9 (Kp.of_same kx) DX ec3 (by rw [List.length_append]; exact Nat.le_trans (Nat.add_le_add lc lc) (by decide)) (app_all (hc tx) (hc tx))
      refine ⟨A, _, _, rfl, rfl, eA10, szN (by omega), ?_⟩
      generalize upd X3 A (.lst (vs ++ [V.ref c3])) = H11 at k10 D10 eA11 h10
      generalize vs ++ [V.ref c3] = vs at eA11 l10 h10
      clear kx1 kx2 kx3 kx DX tx ec1 ec2 ec3 eA10
      -- with the row twice
      have ep9 := kpTup hD k10 _ _ ep
      refine ⟨.ref A, rfl, .inl ⟨rfl, _, .inl (.inl eA11)⟩, ?_⟩
      refine ⟨_, rfl, _, rfl, _, _, rfl, rfl, _, rfl, slA_any ep9 fun c1 X1 kx1 ec1 => ?_⟩
      refine ⟨_, rfl, _, rfl, _, rfl, slA_from (kx1 _ _ ep9) fun c2 X2 kx2 ec2 => ?_⟩
      refine catA_any (kx2 _ _ ec1) ec2 (big _ (Nat.le_trans (Nat.add_le_add lc lc) (by decide))) fun c3 X3 kx3 ec3 => ?_
      have kx := kx1.trans (kx2.trans kx3)
      have DX := D10.keep kx
      have tx := TK.trans (kpTup hD k10) (TK.same kx)
      obtain ⟨eA12, k12, D12, eA13, l12, h12⟩ := putP nAH nAd k10 D10 eA11 l10 h10 (Kp.of_same kx) DX ec3 (by rw [List.length_append]; exact Nat.le_trans (Nat.add_le_add lc lc) (by decide)) (app_all (hc tx) (hc tx))
      refine ⟨A, _, _, rfl, rfl, eA12, szN (by omega), ?_⟩
      generalize upd X3 A (.lst (vs ++ [V.ref c3])) = H13 at k12 D12 eA13 h12
      generalize vs ++ [V.ref c3] = vs at eA13 l12 h12
      clear kx1 kx2 kx3 kx DX tx ec1 ec2 ec3 eA12
      -- with the row cut
      have ep9 := kpTup hD k12 _ _ ep
      have er9 := kpTup hD k12 _ _ erp
      refine ⟨.ref A, rfl, .inl ⟨rfl, _, .inl (.inl eA13)⟩, ?_⟩
      refine ⟨_, rfl, _, rfl, _, rfl, slA_any ep9 fun c1 X1 kx1 ec1 => ?_⟩
      refine ⟨_, rfl, _, rfl, p, _, _, _, rfl, rfl, SqT.of (kx1 _ _ ep9), grw, _, rfl, slA_any (kx1 _ _ er9) fun c4 X4 kx4 ec4 => ?_⟩
      rw [map_nV] at ec4
      obtain ⟨g1, eg1, lg1⟩ := cut_ints (rs.map fun x : Nat => (x : Int)) none (some 2)
      rw [List.length_map] at lg1
      have ec4 : X4 c4 = some (.tup (g1.map V.int)) := by rw [← eg1]; exact ec4
      refine ⟨by show 1 ≤ sizeLine; decide, fun t nt => ?_⟩
      have kt := same_upd (o := .tup [.ref c4]) (Same.refl X4) nt
      have et : upd X4 t (.tup [.ref c4]) t = some (.tup [.ref c4]) := upd_same
      have it : ItV 100 (upd X4 t (.tup [.ref c4])) (.ref c4) := ⟨g1, ⟨c4, rfl, kt _ _ ec4⟩, by omega⟩
      generalize upd X4 t (.tup [.ref c4]) = X5 at kt et it
      refine catA_any (kt _ _ (kx4 _ _ ec1)) et (big _ (Nat.le_trans (Nat.add_le_add lc (Nat.le_refl 1)) (by decide))) fun c5 X6 kx6 ec5 => ?_
      have k16 := kx1.trans (kx4.trans (kt.trans kx6))
      refine ⟨_, rfl, _, rfl, _, _, rfl, rfl, _, rfl, slA_from (k16 _ _ ep9) fun c2 X2 kx2 ec2 => ?_⟩
      refine catA_any (kx2 _ _ ec5) ec2 (big _ (by rw [List.length_append]; exact Nat.le_trans (Nat.add_le_add (Nat.add_le_add lc (Nat.le_refl 1)) lc) (by decide))) fun c3 X3 kx3 ec3 => ?_
      have kx := k16.trans (kx2.trans kx3)
      have DX := D12.keep kx
      have tx := TK.trans (kpTup hD k12) (TK.same kx)
      obtain ⟨eA14, k14, D14, eA15, l14, h14⟩ := putP nAH nAd k12 D12 eA13 l12 h12 (Kp.of_same kx) DX ec3 (by rw [List.length_append, List.length_append]; exact Nat.le_trans (Nat.add_le_add (Nat.add_le_add lc (Nat.le_refl 1)) lc) (by decide)) (app_all (app_all (hc tx) fun x hx => by rw [List.mem_singleton.mp hx]; exact it.to (TK.same (kx6.trans (kx2.trans kx3)))) (hc tx))
      refine ⟨A, _, _, rfl, rfl, eA14, szN (by omega), ?_⟩
      generalize upd X3 A (.lst (vs ++ [V.ref c3])) = H15 at k14 D14 eA15 h14
      generalize vs ++ [V.ref c3] = vs at eA15 l14 h14
      clear kx1 kx2 kx3 kx4 kx6 kt k16 kx DX tx ec1 ec2 ec3 ec4 ec5 et it eA14
      -- with a longer row
      have ep9 := kpTup hD k14 _ _ ep
      have er9 := kpTup hD k14 _ _ erp
      refine ⟨.ref A, rfl, .inl ⟨rfl, _, .inl (.inl eA15)⟩, ?_⟩
      refine ⟨_, rfl, _, rfl, _, rfl, slA_any ep9 fun c1 X1 kx1 ec1 => ?_⟩
      refine ⟨_, rfl, _, rfl, p, _, _, _, rfl, rfl, SqT.of (kx1 _ _ ep9), grw, by show 1 ≤ sizeLine; decide, fun z nz => ?_⟩
      have kz := same_upd (o := .tup [.int 0]) (Same.refl X1) nz
      have ez : upd X1 z (.tup [.int 0]) z = some (.tup ([(0 : Int)].map V.int)) := upd_same
      generalize upd X1 z (.tup [.int 0]) = X0 at kz ez
      have er0 := kz _ _ (kx1 _ _ er9)
      rw [map_nV] at er0
      refine catA_any er0 ez (big _ (by rw [List.length_map, List.length_map]; show rs.length + 1 ≤ _; omega)) fun c4 X4 kx4 ec4 => ?_
      rw [← List.map_append] at ec4
      refine ⟨by show 1 ≤ sizeLine; decide, fun t nt => ?_⟩
      have kt := same_upd (o := .tup [.ref c4]) (Same.refl X4) nt
      have et : upd X4 t (.tup [.ref c4]) t = some (.tup [.ref c4]) := upd_same
      have it : ItV 100 (upd X4 t (.tup [.ref c4])) (.ref c4) := ⟨_, ⟨c4, rfl, kt _ _ ec4⟩, by rw [List.length_append, List.length_map]; show rs.length + 1 ≤ 100; omega⟩
      generalize upd X4 t (.tup [.ref c4]) = X5 at kt et it
      have k15 := kx1.trans (kz.trans (kx4.trans kt))
      refine catA_any ((kz.trans (kx4.trans kt)) _ _ ec1) et (big _ (Nat.le_trans (Nat.add_le_add lc (Nat.le_refl 1)) (by decide))) fun c5 X6 kx6 ec5 => ?_
      have k16 := k15.trans kx6
      refine ⟨_, rfl, _, rfl, _, _, rfl, rfl, _, rfl, slA_from (k16 _ _ ep9) fun c2 X2 kx2 ec2 => ?_⟩
      refine catA_any (kx2 _ _ ec5) ec2 (big _ (by rw [List.length_append]; exact Nat.le_trans (Nat.add_le_add (Nat.add_le_add lc (Nat.le_refl 1)) lc) (by decide))) fun c3 X3 kx3 ec3 => ?_
      have kx := k16.trans (kx2.trans kx3)
      have DX := D14.keep kx
      have tx := TK.trans (kpTup hD k14) (TK.same kx)
      obtain ⟨eA16, k17, D17, eA17, l17, h17⟩ := putP nAH nAd k14 D14 eA15 l14 h14 (Kp.of_same kx) DX ec3 (by rw [List.length_append, List.length_append]; exact Nat.le_trans (Nat.add_le_add (Nat.add_le_add lc (Nat.le_refl 1)) lc) (by decide)) (app_all (app_all (hc tx) fun x hx => by rw [List.mem_singleton.mp hx]; exact it.to (TK.same (kx6.trans (kx2.trans kx3)))) (hc tx))
      refine ⟨A, _, _, rfl, rfl, eA16, szN (by omega), ?_⟩
      generalize upd X3 A (.lst (vs ++ [V.ref c3])) = H17 at k17 D17 eA17 h17
      generalize vs ++ [V.ref c3] = vs at eA17 l17 h17
      clear kx1 kx2 kx3 kx4 kx6 kz kt k15 k16 kx DX tx ec1 ec2 ec3 ec4 ec5 et it eA16
      -- with a number bent
      refine ⟨3, rfl, by omega, by omega, ?_⟩
      refine for_it walk_range (fun j σ' H' => ∃ (vs : List V) (x5 x6 : Option V), σ' = [some (.ref d), some (.ref p), some (.ref sz), some (.ref A), some (nV r), x5, x6] ∧ Kp d H H' ∧ DI d l H' ∧ H' A = some (.lst vs) ∧ vs.length ≤ 3 + r * 7 + 4 + j ∧ ∀ u ∈ vs, PpI 100 H' u) ⟨vs, _, _, rfl, k17, D17, eA17, by omega, h17⟩ (fun _ _ _ _ _ => trivial) ?_ ?_
      · rintro j x σ' Y1 Y2 hj ⟨vs, x5, x6, rfl, k18, D18, eA18, l18, h18⟩ ⟨rfl, hx⟩
        have hx : x = nV j := by rw [hx]; exact int0 j
        subst hx
        have hj : j < 3 := hj
        have ep9 := kpTup hD k18 _ _ ep
        have er9 := kpTup hD k18 _ _ erp
        refine ⟨_, rfl, _, rfl, p, _, _, _, rfl, rfl, SqT.of ep9, grw, rp, _, rfl, .inr (SqT.of er9), fun B nB => ?_⟩
        have nBd := D18.nd nB
        have kB := same_upd (o := .lst (rs.map nV)) (Same.refl Y2) nB
        have eB : upd Y2 B (.lst (rs.map nV)) B = some (.lst (rs.map nV)) := upd_same
        have DB := D18.new (o := .lst (rs.map nV)) nB
        have nAB : A ≠ B := ne_of_none eA18 nB
        generalize upd Y2 B (.lst (rs.map nV)) = Y3 at kB eB DB
        have esz3 := kB _ _ (k18 _ _ nsz esz)
        have gj := atI_nat (nat_at (xs := rs) (i := j) (by omega))
        obtain ⟨sj, esj⟩ : ∃ sj, atI [V.int i1, .int i2, .int i3] (j : Int) = some (.int sj) := by
          have : j = 0 ∨ j = 1 ∨ j = 2 := by omega
          rcases this with rfl | rfl | rfl
          · exact ⟨i1, atI_nat (j := 0) rfl⟩
          · exact ⟨i2, atI_nat (j := 1) rfl⟩
          · exact ⟨i3, atI_nat (j := 2) rfl⟩
        refine ⟨_, rfl, _, rfl, _, rfl, B, _, _, _, rfl, rfl, SqL.of eB, gj, _, rfl, _, rfl, sz, _, _, _, rfl, rfl, SqL.of esz3, esj, d, l, _, sj, rfl, DB, fun Y4 y k4 D4 => ?_⟩
        have eB4 := k4 _ _ nBd.1 eB
        refine ⟨_, rfl, _, rfl, B, _, _, j, rfl, rfl, eB4, ixN_nat (by rw [List.length_map]; omega), ?_⟩
        have es : (rs.map nV).set j (.int y) = ((rs.map fun x : Nat => (x : Int)).set j y).map V.int := by rw [map_nV, List.map_set]
        rw [es]
        have ls : ((rs.map fun x : Nat => (x : Int)).set j y).length = 3 := by rw [List.length_set, List.length_map, lrs]
        generalize (rs.map fun x : Nat => (x : Int)).set j y = js at ls
        have eA4 := k4 _ _ nAd.1 (kB _ _ eA18)
        have k5 : Kp d Y2 (upd Y4 B (.lst (js.map V.int))) := ((Kp.of_same kB).trans k4).mut nB
        have D5 := D4.at (o := .lst (js.map V.int)) nBd.1 nBd.2
        have eB5 : upd Y4 B (.lst (js.map V.int)) B = some (.lst (js.map V.int)) := upd_same
        generalize upd Y4 B (.lst (js.map V.int)) = Y5 at k5 D5 eB5
        have eA5 := k5 _ _ nAd.1 eA18
        have ep5 := kpTup D18 k5 _ _ ep9
        refine ⟨.ref A, rfl, .inl ⟨rfl, _, .inl (.inl eA5)⟩, ?_⟩
        refine ⟨_, rfl, _, rfl, _, rfl, slA_any ep5 fun c1 X1 kx1 ec1 => ?_⟩
        refine ⟨_, rfl, B, _, rfl, .inl ⟨SqL.of (kx1 _ _ eB5), fun c4 nc4 => ⟨by show 1 ≤ sizeLine; decide, fun t nt => ?_⟩⟩⟩
        have kt := same_upd (o := .tup [.ref c4]) (same_upd (o := .tup (js.map V.int)) (Same.refl X1) nc4) nt
        have et : upd (upd X1 c4 (.tup (js.map V.int))) t (.tup [.ref c4]) t = some (.tup [.ref c4]) := upd_same
        have it : ItV 100 (upd (upd X1 c4 (.tup (js.map V.int))) t (.tup [.ref c4])) (.ref c4) := ⟨js, ⟨c4, rfl, by rw [upd_ne (ne_of_none (o := .tup (js.map V.int)) upd_same nt)]; exact upd_same⟩, by omega⟩
        generalize upd (upd X1 c4 (.tup (js.map V.int))) t (.tup [.ref c4]) = X5 at kt et it
        refine catA_any (kt _ _ ec1) et (big _ (Nat.le_trans (Nat.add_le_add lc (Nat.le_refl 1)) (by decide))) fun c5 X6 kx6 ec5 => ?_
        have k16 := kx1.trans (kt.trans kx6)
        refine ⟨_, rfl, _, rfl, _, _, rfl, rfl, _, rfl, slA_from (k16 _ _ ep5) fun c2 X2 kx2 ec2 => ?_⟩
        refine catA_any (kx2 _ _ ec5) ec2 (big _ (by rw [List.length_append]; exact Nat.le_trans (Nat.add_le_add (Nat.add_le_add lc (Nat.le_refl 1)) lc) (by decide))) fun c3 X3 kx3 ec3 => ?_
        have kx := k16.trans (kx2.trans kx3)
        have DX := D5.keep kx
        have tx := TK.trans (kpTup hD k18) (TK.trans (kpTup D18 k5) (TK.same kx))
        obtain ⟨eA20, k20, D20, eA21, l20, h20⟩ := putP nAH nAd k18 D18 eA18 l18 h18 (k5.trans (Kp.of_same kx)) DX ec3 (by rw [List.length_append, List.length_append]; exact Nat.le_trans (Nat.add_le_add (Nat.add_le_add lc (Nat.le_refl 1)) lc) (by decide)) (app_all (app_all (hc tx) fun x hx => by rw [List.mem_singleton.mp hx]; exact it.to (TK.same (kx6.trans (kx2.trans kx3)))) (hc tx))
        refine ⟨A, _, _, rfl, rfl, eA20, szN (by omega), ?_⟩
        exact ⟨_, _, _, rfl, k20, D20, eA21, by omega, h20⟩
      · rintro σ' Y1 ⟨vs, x5, x6, rfl, k18, D18, eA18, l18, h18⟩
        exact ⟨vs, _, _, _, rfl, k18, D18, eA18, by omega, h18⟩
    · rintro σ' H9 ⟨vs, x4, x5, x6, rfl, k9, D9, eA9, l9, h9⟩
      exact ⟨_, rfl, q _ A vs k9 D9 nAd.1 eA9 (by omega) h9⟩
end
end Vf

set_option Elab.async false
set_option linter.all false
set_option maxRecDepth 100000
set_option maxHeartbeats 4000000
namespace Vf
open PySem PySem.Spec PyProof.Rows L2 TL
/-- a watch, a group that is met within, a secret -/
def TrW (W : List Wt) (ms : List Nat) (H : Hp) (u : V) : Prop := ∃ w g s : Nat, NsR H u [w, g, s] ∧ w < W.length ∧ ∃ k ∈ ms, (wtAt W w).1.getD k 0 = g
theorem TrW.to {W : List Wt} {ms : List Nat} {H H' : Hp} {u : V} (h : TrW W ms H u) (k : TK H H') : TrW W ms H' u := by
  obtain ⟨w, g, s, a, b, c⟩ := h
  exact ⟨w, g, s, NsR.mn.to a k, b, c⟩
section
variable {P : Program} {w : World} {K : PySem.W.Frag} {mg : Str → Option Value} {base : Heap}
def spUnsT : Sp := fun vs H Q _ => ∃ (sc : V) (m : Addr) (n : Nat) (F C : List (List Nat)) (W : List Wt) (ms : List Nat), vs = [sc, .ref m] ∧ ScR H sc F C W ∧ ScOk n F C W ∧ H m = some (.lst (ms.map nV)) ∧ (∀ k ∈ ms, k < n) ∧ ms.length < 64 ∧
  ∀ H' p us, Same H H' → H' p = some (.lst us) → us.length ≤ 1000 → us.isEmpty = (!unsB F C W ms) → (∀ u ∈ us, TrW W ms H' u) → Q (.ref p) H'
theorem ok_unsT (T : Txt K mg) : FnOk P w K mg base CX0 2 T.a_law_unsafe T.d_law_unsafe ["_law_scene", "_law_members"] spUnsT := by
  have G_law_ways : FnOk P w K mg base CX0 1 T.a_law_ways T.d_law_ways ["_law_counts", "_law_fillings", "_law_secret"] (spWays K) := ok_ways T
  refine T.D_law_unsafe.F.ok sc_law_unsafe (fun vs H Q E h => ?_) (fun cdv A outer s H vs Q E hr h => ?_)
  · obtain ⟨sc, m, n, F, C, W, ms, rfl, _⟩ := h
    rfl
  · obtain ⟨sc, m, n, F, C, W, ms, rfl, hSc, o, em, hms, l64, q⟩ := h
    refine ⟨_, (pss_cons (ps_set (i := 2) sc_law_unsafe.nd rfl (.inl rfl) (pe_lst pa_nil))
      (pss_cons (ps_for PassesOwn.never rfl (pi_range1 (by rfl) T.n_range (pa_cons (pe_callB call_len_seq (by rfl) T.n_len PySem.boot_len (pa_cons (pe_ix ix_tup (pv 0) pe_int (fun _ _ => rfl)) pa_nil)) pa_nil)) (pg_name (i := 3) sc_law_unsafe.nd rfl (.inr rfl)) (pss_cons (ps_asg (pe_ix ix_tup (pe_ix ix_tup (pv 0) pe_int (fun _ _ => rfl)) (pv 3) (fun _ _ => rfl)) (pg_tup (by rfl) (pgs_cons (pg_name (i := 4) sc_law_unsafe.nd rfl (.inr rfl)) (pgs_cons (pg_name (i := 5) sc_law_unsafe.nd rfl (.inl rfl)) pgs_nil))))
      (pss_one (ps_for PassesOwn.never rfl (pi_range1 (by rfl) T.n_range (pa_cons (pe_callB call_len_seq (by rfl) T.n_len PySem.boot_len (pa_cons (pv 5) pa_nil)) pa_nil)) (pg_name (i := 6) sc_law_unsafe.nd rfl (.inr rfl)) (pss_cons (ps_set (i := 7) sc_law_unsafe.nd rfl (.inr rfl) (pe_lc (own := [("_law_k", 8)]) (g := gName 8) rfl sc_law_unsafe.nd (pi_list (pv 1)) (blkOk_by (own := [("_law_k", 8)]) (N := ["_law_scene", "_law_members", "_law_found", "_law_w", "_law_groups", "_law_guards", "_law_g", "_law_inside", "_law_k", "_law_s", "_law_least"]) (sc := (defScope s_law_unsafe)) (by decide +kernel)) (fun _ _ _ _ _ => (pg_name (i := 8) sc_law_unsafe.nd rfl (.inl rfl))) (fun _ _ _ _ _ => (pts_one (pt_cmpR op_eq (pe_ix (r := rIxT K) ix_tup (pv 4) (pv 8) (fun _ _ => rfl)) (pv 6) (nomark _)))) (fun _ _ _ _ _ => (pe_ix (r := rIxT K) ix_tup (pe_ix (r := rIxT K) ix_tup (pv 0) pe_int (fun _ _ => rfl)) (pv 8) (fun _ _ => rfl)))))
      (pss_one (ps_if (pt_truth (pv 7) (by intro _; rfl)) (pss_one (ps_set (i := 2) sc_law_unsafe.nd rfl (.inl rfl) (pe_op op_cat (pv 2) (pe_lc (own := [("_law_s", 9), ("_law_least", 10)]) (g := (gTup K 2 (gCons (gName 9) (gCons (gName 10) gNil)))) rfl sc_law_unsafe.nd (pi_tup (pe_ix ix_tup (pv 5) (pv 6) (fun _ _ => rfl))) (blkOk_by (own := [("_law_s", 9), ("_law_least", 10)]) (N := ["_law_scene", "_law_members", "_law_found", "_law_w", "_law_groups", "_law_guards", "_law_g", "_law_inside", "_law_k", "_law_s", "_law_least"]) (sc := (defScope s_law_unsafe)) (by decide +kernel)) (fun _ _ _ _ _ => (pg_tup (by rfl) (pgs_cons (pg_name (i := 9) sc_law_unsafe.nd rfl (.inl rfl)) (pgs_cons (pg_name (i := 10) sc_law_unsafe.nd rfl (.inl rfl)) pgs_nil)))) (fun _ _ _ _ _ => (pts_one (pt_cmpR op_lt (pe_call G_law_ways (hr.mono (by decide)) (by rfl) T.D_law_ways.G T.D_law_ways.F.kp T.D_law_ways.B .nil pass0 (pa_cons (pe_ix (r := rIxT K) ix_tup (pv 0) pe_int (fun _ _ => rfl)) (pa_cons (pv 7) (pa_cons (pv 9) pa_nil)))) (pv 10) (nomark _)))) (fun _ _ _ _ _ => (pe_tup (pa_cons (pv 3) (pa_cons (pv 6) (pa_cons (pv 9) pa_nil))))))))) pss_nil)))))))
      (pss_one (ps_ret (pv 2))))), ?_⟩
    obtain ⟨a, f, c, wv, rfl, ea, hF, hC, wa, wus, rfl, ewa, lW⟩ := hSc
    obtain ⟨fa, fus, rfl, efa, lF⟩ := id hF
    have lw := lW.1
    have wl := o.wl
    refine ⟨by show 0 ≤ sizeLine; decide, fun L0 nL0 => ?_⟩
    have k0 := same_upd (o := .lst []) (Same.refl H) nL0
    have eL0 : upd H L0 (.lst []) L0 = some (.lst []) := upd_same
    generalize upd H L0 (.lst []) = H0 at k0 eL0
    refine ⟨_, rfl, a, _, _, _, rfl, rfl, SqT.of (k0 _ _ ea), rfl, _, _, rfl, .inr (SqT.of (k0 _ _ ewa)), (wus.length : Int), rfl, by omega, by omega, ?_⟩
    rw [Int.toNat_natCast]
    refine for_it walk_range (fun i σ' H' => ∃ (L : Addr) (us : List V) (x3 x4 x5 x6 x7 x8 x9 x10 : Option V), σ' = [some (.ref a), some (.ref m), some (.ref L), x3, x4, x5, x6, x7, x8, x9, x10] ∧ Same H H' ∧ H' L = some (.lst us) ∧ us.length ≤ i * 150 ∧ us.isEmpty = (!(W.take i).any (fun wt => unsW F C ms wt)) ∧ ∀ u ∈ us, TrW W ms H' u) ⟨L0, [], none, none, none, none, none, none, none, none, rfl, k0, eL0, Nat.zero_le _, rfl, fun _ h => nomatch h⟩ (fun _ _ _ _ _ => trivial) ?_ ?_
    · rintro i x σ' H1 H2 hi ⟨L, us, x3, x4, x5, x6, x7, x8, x9, x10, rfl, k, eL, lu, hu, hT⟩ ⟨rfl, hx⟩
      have hx : x = nV i := by rw [hx]; show V.int (0 + (i : Int)) = _; rw [Int.zero_add]; rfl
      subst hx
      obtain ⟨wv, ewv, b, gv, dv, rfl, eb, ⟨ga, rfl, ega⟩, da, dus, rfl, eda, lD⟩ := lW.get (i := i) (by omega)
      have ewt : W[i]? = some W[i] := List.getElem?_eq_getElem (by omega)
      have wo := o.wk W[i] (List.getElem_mem _)
      generalize W[i] = wt at ega lD ewt wo
      refine ⟨_, rfl, a, _, _, _, rfl, rfl, SqT.of (k _ _ ea), rfl, _, rfl, wa, _, _, _, rfl, rfl, SqT.of (k _ _ ewa), atI_nat ewv, b, _, rfl, SqT.of (k _ _ eb), rfl, _, _, rfl, _, _, rfl, rfl, ?_⟩
      have ld := lD.1
      have nl := wo.nl
      refine ⟨_, rfl, _, _, rfl, .inr (SqT.of (k _ _ eda)), (dus.length : Int), rfl, by omega, by omega, ?_⟩
      rw [Int.toNat_natCast]
      refine for_it walk_range (fun j σ' H' => ∃ (L : Addr) (us : List V) (x6 x7 x8 x9 x10 : Option V), σ' = [some (.ref a), some (.ref m), some (.ref L), some (nV i), some (.ref ga), some (.ref da), x6, x7, x8, x9, x10] ∧ Same H H' ∧ H' L = some (.lst us) ∧ us.length ≤ i * 150 + j * 6 ∧ us.isEmpty = (!((W.take i).any (fun wt => unsW F C ms wt) || (List.range j).any (fun g => badG F C ms wt g))) ∧ ∀ u ∈ us, TrW W ms H' u) ⟨L, us, _, _, _, _, _, rfl, k, eL, lu, by rw [hu]; show _ = !(_ || false); rw [Bool.or_false], hT⟩ (fun _ _ _ _ _ => trivial) ?_ ?_
      · rintro g x σ' H3 H4 hg ⟨L, us, x6, x7, x8, x9, x10, rfl, k, eL, lu, hu, hT⟩ ⟨rfl, hx⟩
        have hx : x = nV g := by rw [hx]; show V.int (0 + (g : Int)) = _; rw [Int.zero_add]; rfl
        subst hx
        refine ⟨_, rfl, m, rfl, ⟨_, SqL.of (k _ _ em)⟩, fun D nD => ?_⟩
        refine lc_it (walk_list (K := K) (a := m) (xs := ms.map nV)) (fun i H' => ∃ us, H' D = some (.lst us) ∧ LV (NsR H) us (insL F wt.1 (ms.take i) g) ∧ Same H4 H') ⟨[], upd_same, LV.nil, same_upd (Same.refl H4) nD⟩ ?_ ?_ ?_
        · rintro i H' _ ⟨_, _, _, k6⟩
          exact SqL.of (k6 _ _ (k _ _ em))
        · rintro i x H7 H8 hi ⟨us, eD, lv, k6⟩ ⟨rfl, hx⟩
          rw [List.length_map] at hi
          rw [nat_at hi] at hx
          have hx := Option.some.inj hx
          subst hx
          have hk : ms.getD i 0 < n := hms _ (getD_mem hi)
          obtain ⟨fx, efx, hfx⟩ := lF.get0 (i := ms.getD i 0) [] (by rw [o.fl]; exact hk)
          have lu := lv.1
          have li := insL_len F wt.1 (ms.take i) g
          rw [List.length_take] at li
          refine ⟨rfl, ?_⟩
          refine ⟨_, rfl, _, rfl, ga, _, _, _, rfl, rfl, SqT.of (k6 _ _ (k _ _ ega)), atI_nat (nat_at (by rw [wo.gl]; exact hk)), _, rfl, rfl, ?_⟩
          by_cases hg2 : wt.1.getD (ms.getD i 0) 0 = g
          · refine ⟨true, bTr (congrArg nV hg2), ?_⟩
            refine ⟨_, rfl, a, _, _, _, rfl, rfl, SqT.of (k6 _ _ (k _ _ ea)), rfl, _, rfl, fa, _, _, _, rfl, rfl, SqT.of (k6 _ _ (k _ _ efa)), atI_nat efx, ?_⟩
            refine ⟨us, eD, szN (by omega), us ++ [fx], upd_same, ?_, same_mut k6 nD⟩
            rw [take_oneD 0 hi, insL_snoc, if_pos hg2]
            exact lv.snoc hfx
          · refine ⟨false, bFa (fun z => hg2 (nV_inj z)), us, eD, ?_, k6⟩
            rw [take_oneD 0 hi, insL_snoc, if_neg hg2]
            exact lv
        · rintro H7 ⟨vs, eD, lv, k6⟩
          rw [List.length_map, List.take_length] at lv
          have k7 := k.trans k6
          refine ⟨_, rfl, !vs.isEmpty, .inl ⟨_, SqL.of eD, rfl⟩, ?_⟩
          have hv : ms.any (fun k => decide (wt.1.getD k 0 = g)) = !vs.isEmpty := by
            have l1 := lv.1
            unfold insL at l1
            rw [List.length_map] at l1
            cases e : ms.any (fun k => decide (wt.1.getD k 0 = g)) with
            | true =>
              obtain ⟨k, hk, e⟩ := List.any_eq_true.mp e
              have : k ∈ ms.filter (fun k => decide (wt.1.getD k 0 = g)) := List.mem_filter.mpr ⟨hk, e⟩
              cases vs with
              | nil => rw [List.length_eq_zero_iff.mp l1.symm] at this; cases this
              | cons _ _ => rfl
            | false =>
              have : ms.filter (fun k => decide (wt.1.getD k 0 = g)) = [] := List.filter_eq_nil_iff.mpr fun k hk => List.any_eq_false.mp e k hk
              rw [this] at l1
              rw [List.length_eq_zero_iff.mp l1]; rfl
          have eb0 : badG F C ms wt g = (!vs.isEmpty && (wt.2.getD g []).any fun p => decide (waysL C (insL F wt.1 ms g) p.1 < p.2)) := by
            unfold badG; rw [hv]
          cases ev : vs.isEmpty with
          | true =>
            rw [ev] at eb0
            refine ⟨L, us, _, _, _, _, _, rfl, k7, k6 _ _ eL, by omega, ?_, fun u hu => (hT u hu).to (TK.same k6)⟩
            rw [range_snoc, List.any_append, hu, List.any_cons, eb0]; simp
          | false =>
            rw [ev] at eb0
            obtain ⟨rv, erv, ra, rus, rfl, era, lR⟩ := lD.get0 (i := g) [] (by omega)
            have ro := wo.rl _ (getD_mem (d := []) (i := g) (by omega))
            generalize wt.2.getD g [] = row at lR ro eb0
            refine ⟨_, rfl, _, rfl, _, rfl, da, _, _, _, rfl, rfl, SqT.of (k7 _ _ eda), atI_nat erv, ra, rfl, ⟨_, SqT.of (k7 _ _ era)⟩, fun D2 nD2 => ?_⟩
            have lr := lR.1
            have rl6 := ro.1
            have eL7 := k6 _ _ eL
            have nLD2 : L ≠ D2 := ne_of_none eL7 nD2
            refine lc_it (walk_tup (K := K) (a := ra) (xs := rus)) (fun i H' => ∃ us, H' D2 = some (.lst us) ∧ us.length ≤ i ∧ us.isEmpty = (!(row.take i).any fun p => decide (waysL C (insL F wt.1 ms g) p.1 < p.2)) ∧ Same H7 H' ∧ ∀ u ∈ us, TrW W ms H' u) ⟨[], upd_same, Nat.zero_le _, rfl, same_upd (Same.refl H7) nD2, fun _ h => nomatch h⟩ ?_ ?_ ?_
            · rintro i H' _ ⟨_, _, _, _, k8, _⟩
              exact SqT.of (k8 _ _ (k7 _ _ era))
            · rintro wi x H8 H9 hi ⟨vs2, eD2, lv2, hv2, k8, hT2⟩ ⟨rfl, hx⟩
              obtain ⟨pr, epr, pa, _, _, rfl, epa, rfl, rfl⟩ := lR.at hx
              have k9 := k7.trans k8
              have ps := ro.2 pr (List.mem_of_getElem? epr)
              have lF2 := insL_len F wt.1 ms g
              refine ⟨pa, _, rfl, SqT.of (k9 _ _ epa), rfl, _, _, rfl, _, _, rfl, rfl, rfl, ?_⟩
              refine ⟨_, rfl, a, _, _, _, rfl, rfl, SqT.of (k9 _ _ ea), rfl, _, rfl, _, rfl, c, D, vs, C, _, pr.1, rfl, (TupR.mn NsR.mn).to hC (TK.same k9), k8 _ _ eD, lv.mono fun _ _ z => NsR.mn.to z (TK.same k9), ps, insL_ok o hms ps, by omega, fun H10 k10 => ?_⟩
              refine ⟨_, rfl, _, _, rfl, rfl, ?_⟩
              have eD10 := k10 _ _ eD2
              by_cases e : waysL C (insL F wt.1 ms g) pr.1 < pr.2
              · refine ⟨true, bTr (show ((waysL C (insL F wt.1 ms g) pr.1 : Nat) : Int) < ((pr.2 : Nat) : Int) by omega), ?_⟩
                refine ⟨_, rfl, _, rfl, _, rfl, by show 3 ≤ sizeLine; decide, fun t nt => ?_⟩
                have nD2t : D2 ≠ t := ne_of_none eD10 nt
                have eD2t : upd H10 t (.tup [nV i, nV g, nV pr.1]) D2 = some (.lst vs2) := by rw [upd_ne nD2t]; exact eD10
                refine ⟨vs2, eD2t, szN (by omega), vs2 ++ [.ref t], upd_same, by rw [List.length_append]; exact Nat.succ_le_succ lv2, ?_, same_mut (same_upd (k8.trans k10) nt) nD2, ?_⟩
                · rw [take_one epr, List.any_append, List.any_cons, decide_eq_true e]
                  cases vs2 <;> simp
                · refine snoc_all (fun u hu => (hT2 u hu).to (TK.trans ((TK.same k10).new nt) (TK.mut (TK.refl _) eD2t))) ?_
                  refine TrW.to ⟨i, g, pr.1, ⟨t, rfl, upd_same⟩, by omega, ?_⟩ (TK.mut (TK.refl _) eD2t)
                  have hva : ms.any (fun k => decide (wt.1.getD k 0 = g)) = true := by rw [hv, ev]; rfl
                  obtain ⟨k, hk, e3⟩ := List.any_eq_true.mp hva
                  exact ⟨k, hk, by rw [show wtAt W i = wt from getD_of ewt]; exact of_decide_eq_true e3⟩
              · refine ⟨false, bFa (show ¬ ((waysL C (insL F wt.1 ms g) pr.1 : Nat) : Int) < ((pr.2 : Nat) : Int) by omega), ?_⟩
                refine ⟨vs2, eD10, by omega, ?_, k8.trans k10, fun u hu => (hT2 u hu).to (TK.same k10)⟩
                rw [hv2, take_one epr, List.any_append, List.any_cons, decide_eq_false e]; simp
            · rintro H8 ⟨vs2, eD2, lv2, hv2, k8, hT2⟩
              rw [List.take_of_length_le (by omega)] at hv2
              have eL8 := k8 _ _ eL7
              refine ⟨L, D2, us, vs2, rfl, rfl, eL8, eD2, Nat.le_of_lt (szN (by omega)), fun R nR => ?_⟩
              refine ⟨R, us ++ vs2, _, _, _, _, _, rfl, same_upd (k7.trans k8) nR, upd_same, by rw [List.length_append]; omega, ?_, app_all (fun u hu => (hT u hu).to (TK.new (TK.same (k6.trans k8)) nR)) (fun u hu => (hT2 u hu).to (TK.new (TK.refl _) nR))⟩
              rw [range_snoc, List.any_append, List.any_cons, eb0, List.any_nil, Bool.or_false]
              have hv3 : ((row.any fun p => decide (waysL C (insL F wt.1 ms g) p.1 < p.2)) : Bool) = !vs2.isEmpty := by rw [hv2, Bool.not_not]
              rw [hv3]
              have : (us ++ vs2).isEmpty = (us.isEmpty && vs2.isEmpty) := by cases us <;> simp
              rw [this, hu]
              cases vs2.isEmpty <;> simp
      · rintro σ' H3 ⟨L, us, x6, x7, x8, x9, x10, rfl, k, eL, lu, hu, hT⟩
        refine ⟨L, us, _, _, _, _, _, _, _, _, rfl, k, eL, by omega, ?_, hT⟩
        rw [hu, take_one ewt, List.any_append, List.any_cons, List.any_nil, Bool.or_false]
        show _ = !(_ || (List.range wt.2.length).any fun g => badG F C ms wt g)
        rw [ld]
    · rintro σ' H1 ⟨L, us, x3, x4, x5, x6, x7, x8, x9, x10, rfl, k, eL, lu, hu, hT⟩
      rw [lw, List.take_length] at hu
      exact ⟨_, rfl, q H1 L us k eL (by omega) hu hT⟩
end
end Vf

set_option Elab.async false
set_option linter.all false
set_option maxRecDepth 100000
set_option maxHeartbeats 4000000
namespace Vf
open PySem PySem.Spec PyProof.Rows L2 TL
theorem lack_uns {n : Nat} {F C : List (List Nat)} {W : List Wt} (o : ScOk n F C W) {q : List Nat} {k : Nat} (hk : k < n) (hq : k ∈ q) {x : List Nat} (hx : x ∈ lacksL F C W q k) : unsB F C W q = true := by
  obtain ⟨w, hw, hx⟩ := List.mem_flatMap.mp hx
  have hw := List.mem_range.mp hw
  have hm : wtAt W w ∈ W := getD_mem hw
  have wo := o.wk _ hm
  obtain ⟨p, hp, _⟩ := List.mem_map.mp hx
  have ⟨p1, p2⟩ := List.mem_filter.mp hp
  refine List.any_eq_true.mpr ⟨_, hm, List.any_eq_true.mpr ⟨(wtAt W w).1.getD k 0, List.mem_range.mpr (wo.gb k hk), ?_⟩⟩
  unfold badG
  rw [Bool.and_eq_true]
  exact ⟨List.any_eq_true.mpr ⟨k, hq, decide_eq_true rfl⟩, List.any_eq_true.mpr ⟨p, p1, p2⟩⟩
theorem R3_all {H : Hp} {us : List V} (h : ∀ u ∈ us, R3 H u) : ∃ rs : List (List Nat), LV (NsR H) us rs := by
  obtain ⟨rs, lv, _⟩ := all_LV (R := NsR H) (P := fun r => r.length = 3) us h
  exact ⟨rs, lv⟩
section
variable {P : Program} {w : World} {K : PySem.W.Frag} {mg : Str → Option Value} {base : Heap}
def spReaL : Sp := fun vs H Q _ => ∃ (sc v plv : V) (n L : Nat) (F C : List (List Nat)) (W : List Wt) (D : List (List PyData)) (pl : List Nat), vs = [sc, v, plv] ∧ ScR H sc F C W ∧ ScOk n F C W ∧ VwR H v D ∧ VwOk n L D ∧ NsR H plv pl ∧ pl.length = n ∧ (∀ x ∈ pl, x < L) ∧ (∀ k, k < n → csAt D n pl k ≠ []) ∧ (∀ x ∈ pubL pl n (csAt D n pl), PbOk n L F C W D x) ∧
  (∀ k, k < n → oneL D n pl k = csAt D n pl k) ∧ (∀ i, i < n → (i ∈ (fndL (csAt D n pl) i).flatten ↔ hdAt (csAt D n pl) i = false)) ∧
  ∀ H' c, Same H H' → PpV H' c → Q c H'
theorem ok_reaL (T : Txt K mg) : FnOk P w K mg base CX0 3 T.a_law_reasons T.d_law_reasons ["_law_scene", "_law_views", "_law_plan"] spReaL := by
  have G_law_published : FnOk P w K mg base CX0 1 T.a_law_published T.d_law_published ["_law_views", "_law_plan"] spLPub := ok_lpub T
  have G_law_classes : FnOk P w K mg base CX0 1 T.a_law_classes T.d_law_classes ["_law_views", "_law_members", "_law_level"] spLClasses := ok_lclasses T
  have G_law_unsafe : FnOk P w K mg base CX0 2 T.a_law_unsafe T.d_law_unsafe ["_law_scene", "_law_members"] spUnsT := ok_unsT T
  refine T.D_law_reasons.F.ok sc_law_reasons (fun vs H Q E h => ?_) (fun cdv A outer s H vs Q E hr h => ?_)
  · obtain ⟨sc, v, plv, n, L, F, C, W, D, pl, rfl, _⟩ := h
    rfl
  · obtain ⟨sc, v, plv, n, L, F, C, W, D, pl, rfl, hsc, osc, hv, o, ⟨pa, rfl, epa⟩, lpl, hpl, hcs, hpb, hone, hseen, q⟩ := h
    refine ⟨_, (pss_cons (ps_set (i := 3) sc_law_reasons.nd rfl (.inl rfl) (pe_lst pa_nil))
      (pss_cons (ps_for PassesOwn.never rfl (pi_list (pe_call G_law_published (hr.mono (by decide)) (by rfl) T.D_law_published.G T.D_law_published.F.kp T.D_law_published.B .nil pass0 (pa_cons (pv 1) (pa_cons (pv 2) pa_nil)))) (pg_name (i := 4) sc_law_reasons.nd rfl (.inl rfl)) (pss_cons (ps_set (i := 5) sc_law_reasons.nd rfl (.inl rfl) (pe_ix ix_tup (pv 2) (pe_ix ix_list (pv 4) pe_int (fun _ _ => rfl)) (fun _ _ => rfl)))
      (pss_cons (ps_set (i := 6) sc_law_reasons.nd rfl (.inl rfl) (pe_lst pa_nil))
      (pss_cons (ps_for PassesOwn.never rfl (pi_list (pe_call G_law_classes (hr.mono (by decide)) (by rfl) T.D_law_classes.G T.D_law_classes.F.kp T.D_law_classes.B .nil pass0 (pa_cons (pv 1) (pa_cons (pv 4) (pa_cons (pe_op op_sub (pe_callB (call_max2 (by rfl)) (by rfl) T.n_max (by decide +kernel) (pa_cons (pv 5) (pa_cons pe_int pa_nil))) pe_int) pa_nil))))) (pg_name (i := 7) sc_law_reasons.nd rfl (.inl rfl)) (pss_one (ps_for PassesOwn.never rfl (pi_list (pe_call G_law_unsafe (hr.mono (by decide)) (by rfl) T.D_law_unsafe.G T.D_law_unsafe.F.kp T.D_law_unsafe.B .nil pass0 (pa_cons (pv 0) (pa_cons (pv 7) pa_nil)))) (pg_tup (by rfl) (pgs_cons (pg_name (i := 8) sc_law_reasons.nd rfl (.inr rfl)) (pgs_cons (pg_name (i := 9) sc_law_reasons.nd rfl (.inr rfl)) (pgs_cons (pg_name (i := 10) sc_law_reasons.nd rfl (.inr rfl)) pgs_nil)))) (pss_one (ps_set (i := 6) sc_law_reasons.nd rfl (.inl rfl) (pe_op op_cat (pv 6) (pe_lc (own := [("_law_k", 11)]) (g := gName 11) rfl sc_law_reasons.nd (pi_list (pv 7)) (blkOk_by (own := [("_law_k", 11)]) (N := ["_law_scene", "_law_views", "_law_plan", "_law_found", "_law_members", "_law_level", "_law_rows", "_law_one", "_law_w", "_law_g", "_law_s", "_law_k"]) (sc := (defScope s_law_reasons)) (by decide +kernel)) (fun _ _ _ _ _ => (pg_name (i := 11) sc_law_reasons.nd rfl (.inl rfl))) (fun _ _ _ _ _ => (pts_one (pt_cmpR op_eq (pe_ix (r := rIxT K) ix_tup (pe_ix (r := rIxT K) ix_tup (pe_ix (r := rIxT K) ix_tup (pe_ix (r := rIxT K) ix_tup (pv 0) pe_int (fun _ _ => rfl)) (pv 8) (fun _ _ => rfl)) pe_int (fun _ _ => rfl)) (pv 11) (fun _ _ => rfl)) (pv 9) (nomark _)))) (fun _ _ _ _ _ => (pe_tup (pa_cons (pv 11) (pa_cons (pv 8) (pa_cons (pv 10) pa_nil))))))))))))
      (pss_one (ps_if (pt_cmpR op_gt (pv 5) pe_int (nomark _)) (pss_one (ps_expr (pe_bm PySem.F.plainAttrs_list PySem.F.slot_list_append PySem.F.type_list_append mt_append (pv 3) (pa_cons (pe_callB (call_minT (by rfl) (Room.units hr)) (by rfl) T.n_min (by decide +kernel) (pa_cons (pv 6) pa_nil)) pa_nil)))) pss_nil))))))
      (pss_one (ps_ret (pe_callTy call_tuple_of (by rfl) T.n_tuple (by decide +kernel) (pa_cons (pv 3) pa_nil)))))), ?_⟩
    have nn := osc.nn
    refine ⟨by show 0 ≤ sizeLine; decide, fun B nB => ?_⟩
    have k2 := same_upd (o := .lst []) (Same.refl H) nB
    have eB2 : upd H B (.lst []) B = some (.lst []) := upd_same
    generalize upd H B (.lst []) = H2 at k2 eB2
    refine ⟨_, rfl, _, rfl, v, .ref pa, n, L, D, pl, rfl, VwR.mn.to hv (TK.same k2), o, ⟨pa, rfl, k2 _ _ epa⟩, lpl, hpl, nn, hone, hseen, fun H3 A us k3 nA eA lv => ?_⟩
    have hpub : ∀ x ∈ pubL pl n (csAt D n pl), x.2.headD 0 < n ∧ x.2 ≠ [] ∧ pl.getD (x.2.headD 0) 0 = x.1 := fun x hx => by
      obtain ⟨k, hk, rfl⟩ := List.mem_map.mp hx
      have ⟨a, b⟩ := List.mem_filter.mp hk
      have a := List.mem_range.mp a
      unfold hdAt at b
      have b := of_decide_eq_true b
      exact ⟨by show (csAt D n pl k).headD 0 < n; rw [b]; exact a, hcs k a, by show pl.getD ((csAt D n pl k).headD 0) 0 = _; rw [b]⟩
    have lpub : (pubL pl n (csAt D n pl)).length ≤ n := by unfold pubL; rw [List.length_map]; exact Nat.le_trans (List.length_filter_le _ _) (by rw [List.length_range]; exact Nat.le_refl _)
    rw [← pub_snd pl n] at lv
    generalize pubL pl n (csAt D n pl) = pubs at lv hpb hpub lpub
    have lus := lv.1
    rw [List.length_map] at lus
    have nAB : A ≠ B := fun z => by rw [z, eB2] at nA; cases nA
    have eB3 := k3 _ _ eB2
    have k23 := k2.trans k3
    refine ⟨A, rfl, ⟨_, SqL.of eA⟩, ?_⟩
    refine for_it (walk_list (K := K) (a := A) (xs := us)) (fun i σ' H' => ∃ (zs : List V) (x4 x5 x6 x7 x8 x9 x10 : Option V), σ' = [some sc, some v, some (.ref pa), some (.ref B), x4, x5, x6, x7, x8, x9, x10, none] ∧ Same H H' ∧ Kp B H3 H' ∧ H' B = some (.lst zs) ∧ (∀ u ∈ zs, R3 H' u) ∧ zs.length ≤ i) ⟨[], none, none, none, none, none, none, none, rfl, k23, Kp.refl _ _, eB3, (fun _ h => nomatch h), Nat.le_refl _⟩ ?_ ?_ ?_
    · rintro i σ' H' _ ⟨_, _, _, _, _, _, _, _, _, _, kp, _⟩
      exact SqL.of (kp _ _ nAB eA)
    · rintro i x σ' H4 H5 hi ⟨zs, x4, x5, x6, x7, x8, x9, x10, rfl, k4, kp4, eB4, hzs, lzs⟩ ⟨rfl, hx⟩
      obtain ⟨ms', epr, ma, rfl, nmA, nmH, ema⟩ := lv.at hx
      rw [List.getElem?_map] at epr
      obtain ⟨⟨lv0, ms⟩, epr2, e0⟩ := Option.map_eq_some_iff.mp epr
      have e0 : ms = ms' := e0
      subst e0
      have hmem := List.mem_of_getElem? epr2
      have pb := hpb _ hmem
      have ⟨hd1, hd2, hd3⟩ := hpub _ hmem
      have hd1 : ms.headD 0 < n := hd1
      have hd2 : ms ≠ [] := hd2
      have hd3 : pl.getD (ms.headD 0) 0 = lv0 := hd3
      have plt : lv0 < L := pb.lt
      have pml : ms.length ≤ 24 := pb.ml
      have pmn : ∀ k ∈ ms, k < n := pb.mn
      have nmB : ma ≠ B := fun z => by rw [z, eB2] at nmH; cases nmH
      have ema4 := kp4 _ _ nmB ema
      have epa4 := k4 _ _ epa
      have g0 : (ms.map nV)[0]? = some (nV (ms.headD 0)) := by
        cases ms with
        | nil => exact absurd rfl hd2
        | cons a b => rfl
      have gp := atI_nat (nat_at (xs := pl) (i := ms.headD 0) (by omega))
      rw [hd3] at gp
      refine ⟨_, rfl, _, rfl, ma, _, _, _, rfl, rfl, SqL.of ema4, atI_nat (j := 0) g0, pa, _, _, _, rfl, rfl, SqT.of epa4, gp, ?_⟩
      refine ⟨by show 0 ≤ sizeLine; decide, fun R0 nR0 => ?_⟩
      have k5 := same_upd (o := .lst []) (Same.refl H5) nR0
      have eR5 : upd H5 R0 (.lst []) R0 = some (.lst []) := upd_same
      generalize upd H5 R0 (.lst []) = H6 at k5 eR5
      have em : V.int ((if (1 : Int) > (lv0 : Int) then (1 : Int) else (lv0 : Int)) - 1) = nV (lv0 - 1) := congrArg V.int (by split <;> omega)
      refine ⟨_, rfl, _, rfl, _, rfl, _, _, rfl, _, _, rfl, rfl, v, ma, lv0 - 1, n, L, D, ms, by rw [← em]; rfl, VwR.mn.to hv (TK.same (k4.trans k5)), o, by omega, k5 _ _ ema4, pmn, by omega, fun H7 Cc as k7 hcv => ?_⟩
      have k57 := k5.trans k7
      have co : CsOk n ms (cls (eqs D (lv0 - 1)) ms) := cls_ok _
      have hbadc : 0 < lv0 → ∃ c ∈ cls (eqs D (lv0 - 1)) ms, unsB F C W c = true := fun l0 => by
        have ne := pb.ne l0
        have ne : reasL F C W (cls (eqs D (lv0 - 1)) ms) ≠ [] := ne
        obtain ⟨x, hx⟩ := List.exists_mem_of_ne_nil _ ne
        obtain ⟨c, hc, hx⟩ := List.mem_flatMap.mp hx
        obtain ⟨k, hk, hx⟩ := List.mem_flatMap.mp hx
        obtain ⟨y, hy, _⟩ := List.mem_map.mp hx
        have ⟨_, _, c3⟩ := co.2.1 c hc
        exact ⟨c, hc, lack_uns osc (pmn k (c3 k hk)) hk hy⟩
      generalize cls (eqs D (lv0 - 1)) ms = cs at hcv co hbadc
      have lcs := hcv.len
      have cl1 := co.1
      refine ⟨Cc, rfl, ⟨_, SqL.of hcv.eL⟩, ?_⟩
      refine for_it (walk_list (K := K) (a := Cc) (xs := as.map V.ref)) (fun j σ' H' => ∃ (Rw : Addr) (rws : List V) (x7 x8 x9 x10 : Option V), σ' = [some sc, some v, some (.ref pa), some (.ref B), some (.ref ma), some (nV lv0), some (.ref Rw), x7, x8, x9, x10, none] ∧ Same H7 H' ∧ H' Rw = some (.lst rws) ∧ (∀ u ∈ rws, R3 H' u) ∧ rws.length ≤ 1000 * ((cs.take j).map List.length).sum ∧ ((∃ c ∈ cs.take j, unsB F C W c = true) → rws ≠ [])) ⟨R0, [], _, _, _, _, rfl, Same.refl _, k7 _ _ eR5, (fun _ h => nomatch h), Nat.zero_le _, fun ⟨_, h, _⟩ => nomatch h⟩ ?_ ?_ ?_
      · rintro j σ' H' _ ⟨_, _, _, _, _, _, _, k, _⟩
        exact SqL.of (k _ _ hcv.eL)
      · rintro j x σ' H8 H9 hj ⟨Rw, rws, x7, x8, x9, x10, rfl, k8, eRw, hrws, lrws, hne⟩ ⟨rfl, hx⟩
        rw [List.length_map] at hj
        obtain ⟨ca, _, ec2, eca, _, _⟩ := hcv.get (i := j) (by omega)
        rw [ec2] at hx
        have hx := Option.some.inj hx
        subst hx
        have ecj : cs[j]? = some (cs.getD j []) := by rw [List.getD_eq_getElem?_getD, List.getElem?_eq_getElem (by omega)]; rfl
        have psum := parts_sum ecj
        rw [co.2.2] at psum
        have ⟨_, c2, c3⟩ := co.2.1 _ (List.mem_of_getElem? ecj)
        have etk := take_one ecj
        rw [etk, List.map_append, List.sum_append]
        generalize cs.getD j [] = c at eca ecj psum c2 c3 etk
        have hcn : ∀ k ∈ c, k < n := fun k hk => pmn k (c3 k hk)
        have k48 := k4.trans (k57.trans k8)
        refine ⟨_, rfl, _, rfl, sc, ca, n, F, C, W, c, rfl, hsc.mn (TK.same k48), osc, k8 _ _ eca, hcn, by omega, fun H10 U tus k10 eU lU hU hT => ?_⟩
        refine ⟨U, rfl, ⟨_, SqL.of eU⟩, ?_⟩
        have eca10 := k10 _ _ (k8 _ _ eca)
        refine for_it (walk_list (K := K) (a := U) (xs := tus)) (fun t σ' H' => ∃ (Rw : Addr) (rws' : List V) (x8 x9 x10 : Option V), σ' = [some sc, some v, some (.ref pa), some (.ref B), some (.ref ma), some (nV lv0), some (.ref Rw), some (.ref ca), x8, x9, x10, none] ∧ Same H10 H' ∧ H' Rw = some (.lst rws') ∧ (∀ u ∈ rws', R3 H' u) ∧ rws'.length ≤ rws.length + t * c.length ∧ (rws ≠ [] → rws' ≠ []) ∧ (0 < t → rws' ≠ [])) ⟨Rw, rws, _, _, _, rfl, Same.refl _, k10 _ _ eRw, fun u hu => (hrws u hu).to (TK.same k10), by omega, id, fun h => absurd h (by decide)⟩ ?_ ?_ ?_
        · rintro t σ' H' _ ⟨_, _, _, _, _, _, k, _⟩
          exact SqL.of (k _ _ eU)
        · rintro t x σ' H11 H12 ht ⟨Rw, rws', x8, x9, x10, rfl, k11, eRw, hrws', lrws', hn1, hn2⟩ ⟨rfl, hx⟩
          obtain ⟨w, g, s, ⟨ua, rfl, eua⟩, hw, kk, hkk, hkg⟩ := hT _ (List.mem_of_getElem? hx)
          have eua := k11 _ _ eua
          obtain ⟨a, f, c0, wv, rfl, ea, hF, hC, wa, wus, rfl, ewa, lW⟩ := hsc
          obtain ⟨wu, ewu, hwt⟩ := lW.get0 (i := w) ([], []) hw
          have wo := osc.wk _ (getD_mem (xs := W) (d := ([], [])) hw)
          have hkg : (W.getD w ([], [])).1.getD kk 0 = g := hkg
          generalize W.getD w ([], []) = wt at hwt wo hkg
          obtain ⟨b, gv, dv, rfl, eb, ⟨ga, rfl, ega⟩, da, dus, rfl, eda, lD⟩ := hwt
          have kH := (k48.trans k10).trans k11
          refine ⟨ua, _, rfl, SqT.of eua, rfl, _, _, rfl, _, _, rfl, _, _, rfl, rfl, ?_⟩
          refine ⟨_, rfl, _, rfl, ca, rfl, ⟨_, SqL.of (k11 _ _ eca10)⟩, fun D2 nD2 => ?_⟩
          refine lc_it (walk_list (K := K) (a := ca) (xs := c.map nV)) (fun i H' => ∃ zs, H' D2 = some (.lst zs) ∧ (∀ u ∈ zs, R3 H' u) ∧ zs.length ≤ i ∧ Same H12 H' ∧ ((∃ k ∈ c.take i, wt.1.getD k 0 = g) → zs ≠ [])) ⟨[], upd_same, (fun _ h => nomatch h), Nat.zero_le _, same_upd (Same.refl H12) nD2, fun ⟨_, h, _⟩ => nomatch h⟩ ?_ ?_ ?_
          · rintro i H' _ ⟨_, _, _, _, k, _⟩
            exact SqL.of (k _ _ (k11 _ _ eca10))
          · rintro i x H13 H14 hi ⟨zs, eD2, hzs, lzs, k13, hz⟩ ⟨rfl, hx⟩
            rw [List.length_map] at hi
            rw [nat_at hi] at hx
            have hx := Option.some.inj hx
            subst hx
            have hk : c.getD i 0 < n := hcn _ (getD_mem hi)
            rw [take_oneD 0 hi]
            generalize c.getD i 0 = k at hk
            have k14 := kH.trans k13
            refine ⟨rfl, ?_⟩
            refine ⟨_, rfl, a, _, _, _, rfl, rfl, SqT.of (k14 _ _ ea), atI_nat (j := 2) rfl, _, rfl, wa, _, _, _, rfl, rfl, SqT.of (k14 _ _ ewa), atI_nat ewu, b, _, _, _, rfl, rfl, SqT.of (k14 _ _ eb), atI_nat (j := 0) rfl, _, rfl, ga, _, _, _, rfl, rfl, SqT.of (k14 _ _ ega), atI_nat (nat_at (xs := wt.1) (i := k) (by rw [wo.gl]; exact hk)), _, rfl, rfl, ?_⟩
            by_cases e : wt.1.getD k 0 = g
            · refine ⟨true, bTr (congrArg nV e), ?_⟩
              refine ⟨_, rfl, _, rfl, _, rfl, by show 3 ≤ sizeLine; decide, fun p np => ?_⟩
              have eDp : upd H14 p (.tup [nV k, nV w, nV s]) D2 = some (.lst zs) := by rw [upd_ne (ne_of_none eD2 np)]; exact eD2
              refine ⟨zs, eDp, szN (by omega), zs ++ [.ref p], upd_same, ?_, by rw [List.length_append]; exact Nat.succ_le_succ lzs, same_mut (same_upd k13 np) nD2, fun _ z => by simp at z⟩
              refine snoc_all (fun u hu => (hzs u hu).to (TK.trans (TK.new (TK.refl _) np) (TK.mut (TK.refl _) eDp))) ?_
              exact R3.to ⟨[k, w, s], ⟨p, rfl, upd_same⟩, rfl⟩ (TK.mut (TK.refl _) eDp)
            · refine ⟨false, bFa (fun z => e (nV_inj z)), zs, eD2, hzs, by omega, k13, fun ⟨y, hy, ey⟩ => ?_⟩
              rcases List.mem_append.mp hy with h | h
              · exact hz ⟨y, h, ey⟩
              · rw [List.mem_singleton.mp h] at ey
                exact absurd ey e
          · rintro H13 ⟨zs, eD2, hzs, lzs, k13, hz⟩
            rw [List.length_map, List.take_length] at hz
            rw [List.length_map] at lzs
            have zne := hz ⟨kk, hkk, hkg⟩
            have eRw13 := k13 _ _ eRw
            have l2 : t * c.length ≤ 1000 * 24 := Nat.mul_le_mul (by omega) (by omega)
            have l3 : ((cs.take j).map List.length).sum ≤ 24 := by omega
            refine ⟨Rw, D2, _, zs, rfl, rfl, eRw13, eD2, ?_, fun S nS => ?_⟩
            · show _ ≤ 2 ^ 24; omega
            · refine ⟨S, rws' ++ zs, _, _, _, rfl, same_upd (k11.trans k13) nS, upd_same, app_all (fun u hu => (hrws' u hu).to (TK.new (TK.same k13) nS)) (fun u hu => (hzs u hu).to (TK.new (TK.refl _) nS)), by rw [List.length_append, Nat.add_mul]; omega, fun _ z => zne (List.append_eq_nil_iff.mp z).2, fun _ z => zne (List.append_eq_nil_iff.mp z).2⟩
        · rintro σ' H11 ⟨Rw, rws', x8, x9, x10, rfl, k11, eRw, hrws', lrws', hn1, hn2⟩
          have l2 : tus.length * c.length ≤ 1000 * c.length := Nat.mul_le_mul (by omega) (Nat.le_refl _)
          refine ⟨Rw, rws', _, _, _, _, rfl, k8.trans (k10.trans k11), eRw, hrws', by show _ ≤ 1000 * (_ + (c.length + 0)); omega, fun ⟨y, hy, ey⟩ => ?_⟩
          rcases List.mem_append.mp hy with h | h
          · exact hn1 (hne ⟨y, h, ey⟩)
          · rw [List.mem_singleton.mp h] at ey
            refine hn2 ?_
            cases tus with
            | nil => rw [ey] at hU; cases hU
            | cons _ _ => exact Nat.succ_pos _
      · rintro σ' H8 ⟨Rw, rws, x7, x8, x9, x10, rfl, k8, eRw, hrws, lrws, hne⟩
        rw [List.length_map, lcs, List.take_length] at hne
        have k58 := k57.trans k8
        have k48 := k4.trans k58
        have kp8 := kp4.trans (Kp.of_same k58)
        have eB8 := k58 _ _ eB4
        have hzs8 : ∀ u ∈ zs, R3 H8 u := fun u hu => (hzs u hu).to (TK.same k58)
        refine ⟨_, rfl, _, _, rfl, rfl, ?_⟩
        by_cases e : 0 < lv0
        · refine ⟨true, bTr (show (0 : Int) < (lv0 : Int) by omega), ?_⟩
          have rne := hne (hbadc e)
          obtain ⟨rs, lrs⟩ := R3_all hrws
          have lr1 := lrs.1
          have rpos : 0 < rws.length := List.length_pos_iff.mpr rne
          refine ⟨.ref B, rfl, .inl ⟨rfl, _, .inl (.inl eB8)⟩, _, rfl, Rw, rws, rs.map toI, rfl, SqL.of eRw, by rw [List.length_map]; exact lr1, fun i u c hu hc => ?_, by rw [List.length_map]; omega, fun i u c hu hc _ => ?_⟩
          · obtain ⟨r, er, p, rfl, ep⟩ := lrs.at hu
            rw [List.getElem?_map, er] at hc
            have hc := Option.some.inj hc
            subst hc
            exact ⟨p, rfl, SqT.of (by rw [ep]; unfold toI; rw [List.map_map]; rfl)⟩
          · have hu3 := hrws u (List.mem_of_getElem? hu)
            refine ⟨B, _, _, rfl, rfl, eB8, szN (by omega), ?_⟩
            have tm : TK H8 (upd H8 B (.lst (zs ++ [u]))) := TK.mut (TK.refl _) eB8
            exact ⟨zs ++ [u], _, _, _, _, _, _, _, rfl, same_mut k48 nB, kp8.upd, upd_same, snoc_all (fun u hu => (hzs8 u hu).to tm) (hu3.to tm), by rw [List.length_append]; exact Nat.succ_le_succ lzs⟩
        · refine ⟨false, bFa (show ¬ (0 : Int) < (lv0 : Int) by omega), zs, _, _, _, _, _, _, _, rfl, k48, kp8, eB8, hzs8, by omega⟩
    · rintro σ' H4 ⟨zs, x4, x5, x6, x7, x8, x9, x10, rfl, k4, kp4, eB4, hzs, lzs⟩
      refine ⟨_, rfl, B, _, rfl, .inl ⟨SqL.of eB4, fun p np => ?_⟩⟩
      exact q _ _ (same_upd k4 np) ⟨p, zs, rfl, upd_same, by omega, fun x hx => (hzs x hx).to (TK.new (TK.refl _) np)⟩
end
end Vf

set_option Elab.async false
set_option linter.all false
set_option maxRecDepth 100000
set_option maxHeartbeats 4000000
namespace Vf
open PySem PySem.Spec PyProof.Rows L2 TL
def VR (R : List (List Nat)) (lv k : Nat) : Nat := (R.getD lv []).getD k 0
theorem lvs_of {ks : List Nat} {R : List (List Nat)} {n : Nat} (hn : n ≤ 24) (hk : ∀ lv, lv < R.length → ks.getD lv 0 < 4) (hR : ∀ r ∈ R, RowOk n r) (hT : TopC n R) : Lvs n R.length (eqs (vwL ks R n)) (VR R) := by
  refine ⟨fun lv hl a b ha hb => vwL_eq hn hk hR ha hb hl, fun lv hl a b ha hb e => hT.2 lv hl a b ha hb e, fun a b ha hb => ?_⟩
  obtain ⟨c, hc⟩ := hT.1
  exact (hc a ha).trans (hc b hb).symm
theorem toN_toI (pl : List Nat) : toN (toI pl) = pl := by
  unfold toN toI
  rw [List.map_map]
  exact (List.map_congr_left fun x _ => Int.toNat_natCast x).trans (List.map_id pl)
theorem tupI {H : Hp} {v : V} {xs : List (List Nat)} (h : TupR NsR H v xs) : TupR IsR H v (xs.map toI) := by
  obtain ⟨a, us, e, e1, lv⟩ := h
  refine ⟨a, us, e, e1, by rw [List.length_map]; exact lv.1, fun i r er => ?_⟩
  rw [List.getElem?_map] at er
  obtain ⟨x, ex, rfl⟩ := Option.map_eq_some_iff.mp er
  obtain ⟨y, ey, p, e2, ep⟩ := lv.2 i x ex
  exact ⟨y, ey, p, e2, by rw [ep, toI_map]⟩
theorem judge_true {n L : Nat} {F C : List (List Nat)} {W : List Wt} {D : List (List PyData)} {V : Nat → Nat → Nat} {pl : List Nat} (h : Lvs n L (eqs D) V) (lpl : pl.length = n) (ok : PlanOk n L V (unsB F C W) (pl.getD · 0)) (hpl : ∀ x ∈ pl, x < L) (hpb : ∀ x ∈ pubL pl n (csAt D n pl), PbOk n L F C W D x) :
    judgeB F C W D n L (toI pl) ((paperL F C W D n (pubL pl n (csAt D n pl))).map toI) = true := by
  unfold judgeB
  rw [toN_toI]
  have e1 : validB n L (toI pl) = true := by
    unfold validB toI
    rw [List.length_map, decide_eq_true lpl, Bool.true_and]
    refine List.all_eq_true.mpr fun x hx => ?_
    obtain ⟨k, hk, rfl⟩ := List.mem_map.mp hx
    have := hpl k hk
    rw [decide_eq_true (show (0 : Int) ≤ (k : Int) by omega), decide_eq_true (show (k : Int) < (L : Int) by omega)]; rfl
  have e2 : honC D n pl = true := List.all_eq_true.mpr fun k hk => List.all_eq_true.mpr fun j hj => by
    have hk := List.mem_range.mp hk
    rw [cs_cl h ok hk, cl_mem] at hj
    exact decide_eq_true (ok.hon k j hk hj.1 hj.2)
  have e3 : (pubL pl n (csAt D n pl)).all (fun x => !unsB F C W x.2) = true := List.all_eq_true.mpr fun x hx => by
    obtain ⟨k, hk, rfl⟩ := List.mem_map.mp hx
    have hk := List.mem_range.mp (List.mem_filter.mp hk).1
    show (!unsB F C W (csAt D n pl k)) = true
    rw [cs_cl h ok hk, ok.sf k hk]; rfl
  rw [e1, e2, e3, Bool.true_and, Bool.true_and, Bool.true_and]
  have e4 : (paperL F C W D n (pubL pl n (csAt D n pl))).map toI = (aboveL (pubL pl n (csAt D n pl))).map fun x => toI (headR F C W D n x) := by
    unfold paperL aboveL
    rw [List.map_map]; rfl
  have hab : ∀ x ∈ aboveL (pubL pl n (csAt D n pl)), PbOk n L F C W D x ∧ 0 < x.1 := fun x hx => by
    have ⟨a, b⟩ := List.mem_filter.mp hx
    exact ⟨hpb x a, of_decide_eq_true b⟩
  rw [e4]
  generalize aboveL (pubL pl n (csAt D n pl)) = ab at hab
  unfold finB
  rw [List.length_map, decide_eq_true rfl, Bool.true_and]
  refine List.all_eq_true.mpr fun i hi => ?_
  have hi := List.mem_range.mp hi
  have ea : ab[i]? = some ab[i] := List.getElem?_eq_getElem hi
  have ⟨pb, l0⟩ := hab _ (List.mem_of_getElem? ea)
  rw [getD_of ea, getD_of (x := toI (headR F C W D n ab[i])) (by rw [List.getElem?_map, ea]; rfl)]
  refine decide_eq_true (List.mem_map.mpr ⟨_, ?_, rfl⟩)
  have rn := pb.rn l0
  unfold headR
  cases e : rowsL F C W (fun k => clsOf D n (ab[i].1 - 1) k) ab[i].2 with
  | nil => exact absurd e rn
  | cons a b => exact List.mem_cons_self
theorem paper_len {F C : List (List Nat)} {W : List Wt} {D : List (List PyData)} {n : Nat} {pubs : List (Nat × List Nat)} : ∀ c ∈ paperL F C W D n pubs, c.length ≤ 3 := fun c hc => by
  obtain ⟨x, _, rfl⟩ := List.mem_map.mp hc
  unfold headR
  have h := rows3 (F := F) (C := C) (W := W) (low := fun k => clsOf D n (x.1 - 1) k) (ms := x.2)
  cases e : rowsL F C W (fun k => clsOf D n (x.1 - 1) k) x.2 with
  | nil => exact Nat.zero_le _
  | cons a b => exact Nat.le_of_eq (h a (by rw [e]; exact List.mem_cons_self))
section
variable {P : Program} {w : World} {K : PySem.W.Frag} {mg : Str → Option Value} {base : Heap}
def spLaw (K : PySem.W.Frag) : Sp := fun vs H Q _ => ∃ (a : Addr) (ns : List Int), vs = [.ref a] ∧ SqL K H a (ns.map V.int) ∧ ns.length ≤ 63 ∧ ∀ H', Q (.bl true) H'
theorem ok_law (T : Txt K mg) : FnOk P w K mg base CX0 6 T.a_law T.d_law ["_law_script"] (spLaw K) := by
  have G_law_begin : FnOk P w K mg base CX0 1 T.a_law_begin T.d_law_begin ["_law_script"] (spBegin K) := ok_begin T
  have G_law_pick : FnOk P w K mg base CX0 2 T.a_law_pick T.d_law_pick ["_law_d", "_law_row"] (spPick K) := ok_pick T
  have G_law_plan_fillings : FnOk P w K mg base CX0 3 T.a_law_plan_fillings T.d_law_plan_fillings ["_law_d", "_law_turns"] spFill := ok_fill T
  have G_law_plan_chain : FnOk P w K mg base CX0 3 T.a_law_plan_chain T.d_law_plan_chain ["_law_d", "_law_n", "_law_levels"] spChain := ok_chain T
  have G_law_plan_scene : FnOk P w K mg base CX0 5 T.a_law_plan_scene T.d_law_plan_scene ["_law_d", "_law_sizes", "_law_fillings", "_law_chain"] spScene := ok_scene T
  have G_law_plan_views : FnOk P w K mg base CX0 2 T.a_law_plan_views T.d_law_plan_views ["_law_d", "_law_chain"] spViews := ok_views T
  have G_finest : FnOk P w K mg base CX0 3 T.a_finest T.d_finest ["scene", "views"] spFinest := ok_finest T
  have G_law_finest : FnOk P w K mg base CX0 3 T.a_law_finest T.d_law_finest ["_law_scene", "_law_views"] spLFinest := ok_lfinest T
  have G_law_plan_tries : FnOk P w K mg base CX0 2 T.a_law_plan_tries T.d_law_plan_tries ["_law_d", "_law_chain", "_law_best"] spTries := ok_tries T
  have G_law_plan_papers : FnOk P w K mg base CX0 3 T.a_law_plan_papers T.d_law_plan_papers ["_law_d", "_law_scene", "_law_views", "_law_plan"] spPapers := ok_papers T
  have G_law_plan_asked : FnOk P w K mg base CX0 5 T.a_law_plan_asked T.d_law_plan_asked ["_law_scene", "_law_views", "_law_plan", "_law_paper"] spPAsk := ok_pask T
  have G_law_reasons : FnOk P w K mg base CX0 3 T.a_law_reasons T.d_law_reasons ["_law_scene", "_law_views", "_law_plan"] spReaL := ok_reaL T
  have G_law_plan_spoilt : FnOk P w K mg base CX0 4 T.a_law_plan_spoilt T.d_law_plan_spoilt ["_law_d", "_law_paper", "_law_sizes"] spSpoilt := ok_spoilt T
  have G_law_plan_bent : FnOk P w K mg base CX0 4 T.a_law_plan_bent T.d_law_plan_bent ["_law_d", "_law_plan", "_law_levels"] spBent := ok_bent T
  have G_reasons_of : FnOk P w K mg base CX0 4 T.a_reasons_of T.d_reasons_of ["scene", "views"] spReasons := ok_reasons T
  have G_judge_plan : FnOk P w K mg base CX0 4 T.a_judge_plan T.d_judge_plan ["scene", "views", "plan", "paper"] spJudge := ok_judge T
  have G_law_exact : FnOk P w K mg base CX0 2 T.a_law_exact T.d_law_exact ["_law_told", "_law_due"] spExactB := ok_exactB T
  refine T.D_law.F.ok sc_law (fun vs H Q E h => ?_) (fun cdv A outer s H vs Q E hr h => ?_)
  · obtain ⟨a, ns, rfl, _⟩ := h
    rfl
  · obtain ⟨a, ns, rfl, hS, hl, q⟩ := h
    refine ⟨_, (pss_cons (ps_set (i := 1) sc_law.nd rfl (.inl rfl) (pe_call G_law_begin (hr.mono (by decide)) (by rfl) T.D_law_begin.G T.D_law_begin.F.kp T.D_law_begin.B .nil pass0 (pa_cons (pv 0) pa_nil)))
      (pss_cons (ps_asg (pe_call G_law_plan_fillings (hr.mono (by decide)) (by rfl) T.D_law_plan_fillings.G T.D_law_plan_fillings.F.kp T.D_law_plan_fillings.B .nil pass0 (pa_cons (pv 1) (pa_cons (pe_call G_law_pick (hr.mono (by decide)) (by rfl) T.D_law_pick.G T.D_law_pick.F.kp T.D_law_pick.B .nil pass0 (pa_cons (pv 1) (pa_cons (pe_lst (pa_cons pe_int (pa_cons pe_int (pa_cons pe_int (pa_cons pe_int (pa_cons pe_int (pa_cons pe_int pa_nil))))))) pa_nil))) pa_nil))) (pg_tup (by rfl) (pgs_cons (pg_name (i := 2) sc_law.nd rfl (.inl rfl)) (pgs_cons (pg_name (i := 3) sc_law.nd rfl (.inl rfl)) pgs_nil))))
      (pss_cons (ps_set (i := 4) sc_law.nd rfl (.inl rfl) (pe_call G_law_plan_chain (hr.mono (by decide)) (by rfl) T.D_law_plan_chain.G T.D_law_plan_chain.F.kp T.D_law_plan_chain.B .nil pass0 (pa_cons (pv 1) (pa_cons (pe_callB call_len_seq (by rfl) T.n_len PySem.boot_len (pa_cons (pv 3) pa_nil)) (pa_cons (pe_call G_law_pick (hr.mono (by decide)) (by rfl) T.D_law_pick.G T.D_law_pick.F.kp T.D_law_pick.B .nil pass0 (pa_cons (pv 1) (pa_cons (pe_lst (pa_cons pe_int (pa_cons pe_int (pa_cons pe_int (pa_cons pe_int (pa_cons pe_int pa_nil)))))) pa_nil))) pa_nil)))))
      (pss_cons (ps_set (i := 5) sc_law.nd rfl (.inl rfl) (pe_call G_law_plan_scene (hr.mono (by decide)) (by rfl) T.D_law_plan_scene.G T.D_law_plan_scene.F.kp T.D_law_plan_scene.B .nil pass0 (pa_cons (pv 1) (pa_cons (pv 2) (pa_cons (pv 3) (pa_cons (pv 4) pa_nil))))))
      (pss_cons (ps_set (i := 6) sc_law.nd rfl (.inl rfl) (pe_call G_law_plan_views (hr.mono (by decide)) (by rfl) T.D_law_plan_views.G T.D_law_plan_views.F.kp T.D_law_plan_views.B .nil pass0 (pa_cons (pv 1) (pa_cons (pv 4) pa_nil))))
      (pss_cons (ps_set (i := 7) sc_law.nd rfl (.inl rfl) (pe_call G_law_finest (hr.mono (by decide)) (by rfl) T.D_law_finest.G T.D_law_finest.F.kp T.D_law_finest.B .nil pass0 (pa_cons (pv 5) (pa_cons (pv 6) pa_nil))))
      (pss_cons (ps_for PassesOwn.never rfl (pi_list (pe_call G_law_plan_tries (hr.mono (by decide)) (by rfl) T.D_law_plan_tries.G T.D_law_plan_tries.F.kp T.D_law_plan_tries.B .nil pass0 (pa_cons (pv 1) (pa_cons (pv 4) (pa_cons (pv 7) pa_nil))))) (pg_name (i := 8) sc_law.nd rfl (.inl rfl)) (pss_one (ps_for PassesOwn.never rfl (pi_list (pe_call G_law_plan_papers (hr.mono (by decide)) (by rfl) T.D_law_plan_papers.G T.D_law_plan_papers.F.kp T.D_law_plan_papers.B .nil pass0 (pa_cons (pv 1) (pa_cons (pv 5) (pa_cons (pv 6) (pa_cons (pv 8) pa_nil)))))) (pg_name (i := 9) sc_law.nd rfl (.inl rfl)) (pss_one (ps_if (pt_not (pt_val (pe_call G_law_plan_asked (hr.mono (by decide)) (by rfl) T.D_law_plan_asked.G T.D_law_plan_asked.F.kp T.D_law_plan_asked.B .nil pass0 (pa_cons (pv 5) (pa_cons (pv 6) (pa_cons (pv 8) (pa_cons (pv 9) pa_nil))))))) (pss_one (ps_ret pe_bl)) pss_nil)))))
      (pss_cons (ps_set (i := 2) sc_law.nd rfl (.inl rfl) (pe_lst (pa_cons (pe_callB call_len_seq (by rfl) T.n_len PySem.boot_len (pa_cons (pv 3) pa_nil)) (pa_cons (pe_callB call_len_seq (by rfl) T.n_len PySem.boot_len (pa_cons (pe_ix ix_tup (pv 5) pe_int (fun _ _ => rfl)) pa_nil)) (pa_cons (pe_callB call_len_seq (by rfl) T.n_len PySem.boot_len (pa_cons (pe_ix ix_tup (pv 5) pe_int (fun _ _ => rfl)) pa_nil)) pa_nil)))))
      (pss_cons (ps_for PassesOwn.never rfl (pi_list (pe_lst (pa_cons (pe_call G_law_reasons (hr.mono (by decide)) (by rfl) T.D_law_reasons.G T.D_law_reasons.F.kp T.D_law_reasons.B .nil pass0 (pa_cons (pv 5) (pa_cons (pv 6) (pa_cons (pv 7) pa_nil)))) (pa_cons (pe_ix ix_list (pe_call G_law_plan_papers (hr.mono (by decide)) (by rfl) T.D_law_plan_papers.G T.D_law_plan_papers.F.kp T.D_law_plan_papers.B .nil pass0 (pa_cons (pv 1) (pa_cons (pv 5) (pa_cons (pv 6) (pa_cons (pv 7) pa_nil))))) pe_int (fun _ _ => rfl)) pa_nil)))) (pg_name (i := 9) sc_law.nd rfl (.inl rfl)) (pss_cons (ps_for PassesOwn.never rfl (pi_list (pe_op op_cat (pe_lst (pa_cons (pv 9) pa_nil)) (pe_call G_law_plan_spoilt (hr.mono (by decide)) (by rfl) T.D_law_plan_spoilt.G T.D_law_plan_spoilt.F.kp T.D_law_plan_spoilt.B .nil pass0 (pa_cons (pv 1) (pa_cons (pv 9) (pa_cons (pv 2) pa_nil)))))) (pg_name (i := 10) sc_law.nd rfl (.inl rfl)) (pss_one (ps_if (pt_not (pt_val (pe_call G_law_plan_asked (hr.mono (by decide)) (by rfl) T.D_law_plan_asked.G T.D_law_plan_asked.F.kp T.D_law_plan_asked.B .nil pass0 (pa_cons (pv 5) (pa_cons (pv 6) (pa_cons (pv 7) (pa_cons (pv 10) pa_nil))))))) (pss_one (ps_ret pe_bl)) pss_nil)))
      (pss_one (ps_for PassesOwn.never rfl (pi_list (pe_call G_law_plan_bent (hr.mono (by decide)) (by rfl) T.D_law_plan_bent.G T.D_law_plan_bent.F.kp T.D_law_plan_bent.B .nil pass0 (pa_cons (pv 1) (pa_cons (pv 7) (pa_cons (pe_callB call_len_seq (by rfl) T.n_len PySem.boot_len (pa_cons (pv 4) pa_nil)) pa_nil))))) (pg_name (i := 8) sc_law.nd rfl (.inl rfl)) (pss_one (ps_if (pt_not (pt_val (pe_call G_law_plan_asked (hr.mono (by decide)) (by rfl) T.D_law_plan_asked.G T.D_law_plan_asked.F.kp T.D_law_plan_asked.B .nil pass0 (pa_cons (pv 5) (pa_cons (pv 6) (pa_cons (pv 8) (pa_cons (pv 9) pa_nil))))))) (pss_one (ps_ret pe_bl)) pss_nil))))))
      (pss_one (ps_ret (pe_call G_law_exact (hr.mono (by decide)) (by rfl) T.D_law_exact.G T.D_law_exact.F.kp T.D_law_exact.B .nil pass0 (pa_cons (pe_call G_judge_plan (hr.mono (by decide)) (by rfl) T.D_judge_plan.G T.D_judge_plan.F.kp T.D_judge_plan.B .nil pass0 (pa_cons (pv 5) (pa_cons (pv 6) (pa_cons (pe_call G_finest (hr.mono (by decide)) (by rfl) T.D_finest.G T.D_finest.F.kp T.D_finest.B .nil pass0 (pa_cons (pv 5) (pa_cons (pv 6) pa_nil))) (pa_cons (pe_call G_reasons_of (hr.mono (by decide)) (by rfl) T.D_reasons_of.G T.D_reasons_of.F.kp T.D_reasons_of.B .nil pass0 (pa_cons (pv 5) (pa_cons (pv 6) pa_nil))) pa_nil))))) (pa_cons pe_bl pa_nil)))))))))))))), ?_⟩
    refine ⟨_, rfl, a, ns, rfl, hS, hl, fun H1 d l s1 D1 => ?_⟩
    refine ⟨_, rfl, _, rfl, by show 6 ≤ sizeLine; decide, fun M nM => ?_⟩
    refine ⟨d, l, .ref M, _, rfl, D1.new nM, .inl ⟨M, rfl, (D1.nd nM).1, SqL.of upd_same⟩, Nat.succ_pos _, by show 6 ≤ 1000; decide, fun H2 v k2 D2 hv => ?_⟩
    obtain ⟨t, rfl, t1, t6⟩ := isN_of (lo := 1) (hi := 6) (List.all_eq_true.mp (show List.all _ (isN 1 6) = true from rfl) v hv)
    refine ⟨d, l, t, rfl, D2, t1, by omega, fun H3 a3 sz fv S F k3 D3 e3 nsd esz hF o => ?_⟩
    obtain ⟨fa, fus, rfl, efa, lF⟩ := id hF
    refine ⟨a3, _, rfl, SqT.of e3, rfl, _, _, rfl, _, _, rfl, rfl, ?_⟩
    have lf := lF.1
    have of1 := o.f1
    have oft := o.ft
    refine ⟨_, rfl, _, rfl, fa, _, rfl, .inr (SqT.of efa), ?_⟩
    refine ⟨_, rfl, by show 5 ≤ sizeLine; decide, fun M2 nM2 => ?_⟩
    refine ⟨d, l, .ref M2, _, rfl, D3.new nM2, .inl ⟨M2, rfl, (D3.nd nM2).1, SqL.of upd_same⟩, Nat.succ_pos _, by show 5 ≤ 1000; decide, fun H4 v k4 D4 hv => ?_⟩
    have k4 := ((Kp.refl d H3).new (o := .lst [V.int 3, V.int 4, V.int 2, V.int 5, V.int 1]) nM2).trans k4
    obtain ⟨L, rfl, L1, L5⟩ := isN_of (lo := 1) (hi := 5) (List.all_eq_true.mp (show List.all _ (isN 1 5) = true from rfl) v hv)
    refine ⟨d, l, F.length, L, by rw [lf]; rfl, D4, of1, by omega, L1, by omega, fun H5 ch rows R k5 D5 nch ech lR eR hR hT => ?_⟩
    have k35 := k4.trans k5
    have hch : ChV d F.length H5 ch R := ⟨nch, rows, ech, lR, by omega, by omega, hR⟩
    have hF5 := (TupR.mn NsR.mn).to hF (kpTup D3 k35)
    have esz5 := k35 _ _ nsd esz
    refine ⟨_, rfl, _, rfl, _, rfl, _, rfl, d, l, sz, .ref fa, ch, t, S, F, R, rfl, D5, nsd, esz5, hF5, o, by omega, hch, fun H6 v1 C1 W1 k6 D6 hs1 o1 => ?_⟩
    refine ⟨_, rfl, _, rfl, d, l, ch, F.length, R, rfl, D6, hch.kp k6, of1, by omega, fun H7 w1 ks1 k7 D7 hk1 hv1 => ?_⟩
    have hs1 := hs1.mn (kpTup D6 k7)
    have hch7 := hch.kp (k6.trans k7)
    have efa7 := kpTup D3 (k35.trans (k6.trans k7)) _ _ efa
    subst eR
    have nn := o1.nn
    have o0 := vwL_ok (n := F.length) (by omega) hk1 hR
    have lvs := lvs_of (n := F.length) (by omega) hk1 hR hT
    generalize vwL ks1 R F.length = DD at hv1 o0 lvs
    refine ⟨_, rfl, _, rfl, v1, w1, F.length, R.length, F, C1, W1, DD, rfl, hs1, o1, hv1, o0, L1, of1, by omega, fun H8 p1 k8 hp1 => ?_⟩
    obtain ⟨pl, epl, lpl, ok, _, hbad⟩ := finF_best lvs (un_ok (n := F.length) (F := F) (C := C1) (W := W1)) L1 o1.whole
    rw [epl] at hp1
    have hpl : ∀ x ∈ pl, x < R.length := fun x hx => by
      obtain ⟨i, hi, rfl⟩ := List.mem_iff_getElem.mp hx
      have := ok.lt i (by omega)
      have this : pl.getD i 0 < R.length := this
      rw [List.getD_eq_getElem?_getD, List.getElem?_eq_getElem hi] at this
      exact this
    have hcs : ∀ k, k < F.length → csAt DD F.length pl k ≠ [] := fun k hk z => by
      have := cs_self lvs ok hk
      rw [z] at this; cases this
    have hpb := pb_ok o1 lvs ok hbad
    have hcl : ∀ lv k, lv < R.length → k < F.length → k ∈ clsOf DD F.length lv k := fun lv k hl hk => by
      rw [clsOf_cl lvs hl hk, cl_mem]; exact ⟨hk, rfl⟩
    obtain ⟨pa, rfl, epa⟩ := hp1
    have hs8 := hs1.mn (TK.same k8)
    have hv8 := VwR.mn.to hv1 (TK.same k8)
    have hch8 := hch7.kp (Kp.of_same k8)
    have D8 := D7.keep k8
    have efa8 := k8 _ _ efa7
    clear hs1 hv1 hch hch7 efa7 hF5 esz5
    -- what is asked of any plan and any paper
    have ask : ∀ {H9 : Hp} {u : V} {m : Nat}, Kp d H8 H9 → PpI m H9 u → m ≤ 1000 → ∃ paper : List (List Int), ScR H9 v1 F C1 W1 ∧ VwR H9 w1 DD ∧ TupR IsR H9 u paper ∧ paper.length ≤ 1000 ∧ ∀ r ∈ paper, r.length ≤ 100 := by
      intro H9 u m k hu hm
      obtain ⟨paper, h1, h2, h3⟩ := hu.tup
      have tk := kpTup D8 k
      exact ⟨paper, hs8.mn tk, VwR.mn.to hv8 tk, h1, by omega, h3⟩
    have isr : ∀ {H : Hp} {v : V} {pl : List Nat}, NsR H v pl → IsR H v (toI pl) := fun ⟨a, e, h⟩ => ⟨a, e, by rw [h, toI_map]⟩
    have til : ∀ pl : List Nat, (toI pl).length = pl.length := fun pl => by unfold toI; exact List.length_map _
    refine ⟨_, rfl, _, rfl, _, rfl, d, l, ch, .ref pa, F.length, R, pl, rfl, D8, hch8, of1, by omega, L5, ⟨pa, rfl, epa⟩, lpl, hpl, fun H9 A1 tus k9 D9 nA1 eA1 lA1 hA1 => ?_⟩
    refine ⟨A1, rfl, ⟨_, SqL.of eA1⟩, ?_⟩
    refine for_it (walk_list (K := K) (a := A1) (xs := tus)) (fun i σ' H' => ∃ (x8 x9 : Option V), σ' = [some (.ref a), some (.ref d), some (.ref sz), some (.ref fa), some (.ref ch), some v1, some w1, some (.ref pa), x8, x9, none] ∧ Kp d H8 H' ∧ DI d l H' ∧ Kp d H9 H') ⟨_, _, rfl, k9, D9, Kp.refl _ _⟩ ?_ ?_ ?_
    · rintro i σ' H' _ ⟨_, _, _, _, _, k⟩
      exact SqL.of (k _ _ nA1 eA1)
    · rintro i x σ' H10 H11 hi ⟨x8, x9, rfl, k10, D10, k910⟩ ⟨rfl, hx⟩
      obtain ⟨pl2, hpv, lp2, hp2⟩ := (hA1 _ (List.mem_of_getElem? hx)).to (kpTup D9 k910)
      obtain ⟨xa, rfl, exa⟩ := id hpv
      refine ⟨_, rfl, _, rfl, _, rfl, _, rfl, d, l, v1, w1, .ref xa, F.length, R.length, F, C1, W1, DD, pl2, rfl, D10, hs8.mn (kpTup D8 k10), o1, VwR.mn.to hv8 (kpTup D8 k10), o0, hcl, hpv, lp2, hp2, fun H12 A2 u1 u2 k12 D12 nA2 eA2 pu1 pu2 => ?_⟩
      refine ⟨A2, rfl, ⟨_, SqL.of eA2⟩, ?_⟩
      have k812 := k10.trans k12
      have hpv12 := NsR.mn.to hpv (kpTup D10 k12)
      refine for_it (walk_list (K := K) (a := A2) (xs := [u1, u2])) (fun i σ' H' => ∃ (x9 : Option V), σ' = [some (.ref a), some (.ref d), some (.ref sz), some (.ref fa), some (.ref ch), some v1, some w1, some (.ref pa), some (.ref xa), x9, none] ∧ Same H12 H') ⟨_, rfl, Same.refl _⟩ ?_ ?_ ?_
      · rintro i σ' H' _ ⟨_, _, k⟩
        exact SqL.of (k _ _ eA2)
      · rintro j y σ' H13 H14 hj ⟨x9, rfl, k13⟩ ⟨rfl, hy⟩
        have hy : PpI 100 H14 y := by
          have := List.mem_of_getElem? hy
          simp only [List.mem_cons, List.not_mem_nil, or_false] at this
          rcases this with rfl | rfl
          · exact pu1.pi.to (TK.same k13)
          · exact pu2.pi.to (TK.same k13)
        obtain ⟨paper, b1, b2, b3, b4, b5⟩ := ask (k812.trans (Kp.of_same k13)) hy (by omega)
        have exb := k13 _ _ (kpTup D10 k12 _ _ exa)
        refine ⟨_, rfl, _, rfl, _, rfl, _, rfl, v1, w1, y, xa, F.length, R.length, F, C1, W1, DD, VR R, toI pl2, paper, rfl, b1, o1, b2, o0, of1, by omega, lvs, by rw [toI_map]; exact exb, by rw [til]; omega, b3, b4, b5, fun H15 k15 => ?_⟩
        exact ⟨true, rfl, _, rfl, k13.trans k15⟩
      · rintro σ' H13 ⟨x9, rfl, k13⟩
        exact ⟨_, _, rfl, k812.trans (Kp.of_same k13), D12.keep k13, k910.trans (k12.trans (Kp.of_same k13))⟩
    · rintro σ' H10 ⟨x8, x9, rfl, k10, D10, _⟩
      obtain ⟨sa, sf, scn, swv, rfl, esa, hsF, ⟨ca, cus, rfl, eca, lC⟩, wa, wus, rfl, ewa, lW⟩ := id hs8
      have esa10 := kpTup D8 k10 _ _ esa
      refine ⟨_, rfl, fa, _, rfl, .inr (SqT.of (kpTup D8 k10 _ _ efa8)), ?_⟩
      refine ⟨_, rfl, sa, _, _, _, rfl, rfl, SqT.of esa10, atI_nat (j := 2) rfl, wa, _, rfl, .inr (SqT.of (kpTup D8 k10 _ _ ewa)), ?_⟩
      refine ⟨_, rfl, sa, _, _, _, rfl, rfl, SqT.of esa10, atI_nat (j := 1) rfl, ca, _, rfl, .inr (SqT.of (kpTup D8 k10 _ _ eca)), ?_⟩
      refine ⟨by show 3 ≤ sizeLine; decide, fun Z nZ => ?_⟩
      have nZd := (D10.nd nZ).1
      have kZ := k10.new (o := .lst [.int (fus.length : Int), .int (wus.length : Int), .int (cus.length : Int)]) nZ
      have DZ := D10.new (o := .lst [.int (fus.length : Int), .int (wus.length : Int), .int (cus.length : Int)]) nZ
      have eZ : upd H10 Z (.lst [.int (fus.length : Int), .int (wus.length : Int), .int (cus.length : Int)]) Z = some (.lst [.int (fus.length : Int), .int (wus.length : Int), .int (cus.length : Int)]) := upd_same
      generalize upd H10 Z (.lst [.int (fus.length : Int), .int (wus.length : Int), .int (cus.length : Int)]) = H11 at kZ DZ eZ
      have tk := kpTup D8 kZ
      have epa11 := tk _ _ epa
      refine ⟨_, rfl, _, rfl, _, rfl, .ref sa, w1, .ref pa, F.length, R.length, F, C1, W1, DD, pl, rfl, hs8.mn tk, o1, VwR.mn.to hv8 tk, o0, ⟨pa, rfl, epa11⟩, lpl, hpl, hcs, hpb, fun k hk => one_cs lvs ok hk, fun i hi => seen_iff lvs ok hi, fun H12 r1 k12 hr1 => ?_⟩
      have D12 := DZ.keep k12
      have k812 := kZ.trans (Kp.of_same k12)
      have tk12 := kpTup D8 k812
      refine ⟨_, rfl, _, rfl, _, rfl, _, rfl, d, l, .ref sa, w1, .ref pa, F.length, R.length, F, C1, W1, DD, pl, rfl, D12, hs8.mn tk12, o1, VwR.mn.to hv8 tk12, o0, hcl, ⟨pa, rfl, k12 _ _ epa11⟩, lpl, hpl, fun H13 A2 u1 u2 k13 D13 nA2 eA2 pu1 pu2 => ?_⟩
      refine ⟨A2, _, _, _, rfl, rfl, SqL.of eA2, atI_nat (j := 0) rfl, ?_⟩
      refine ⟨by show 2 ≤ sizeLine; decide, fun A3 nA3 => ?_⟩
      have nA3d := (D13.nd nA3).1
      have k14 := (k812.trans k13).new (o := .lst [r1, u1]) nA3
      have D14 := D13.new (o := .lst [r1, u1]) nA3
      have eZ14 := ((Kp.of_same k12 : Kp d H11 H12).trans k13).new (o := .lst [r1, u1]) nA3 _ _ nZd eZ
      have eA3 : upd H13 A3 (.lst [r1, u1]) A3 = some (.lst [r1, u1]) := upd_same
      have pr1 : PpV (upd H13 A3 (.lst [r1, u1])) r1 := hr1.to (TK.new (kpTup D12 k13) nA3)
      have pr2 : PpV (upd H13 A3 (.lst [r1, u1])) u1 := pu1.to (TK.new (TK.refl _) nA3)
      generalize upd H13 A3 (.lst [r1, u1]) = H14 at k14 D14 eZ14 eA3 pr1 pr2
      refine ⟨A3, rfl, ⟨_, SqL.of eA3⟩, ?_⟩
      refine for_it (walk_list (K := K) (a := A3) (xs := [r1, u1])) (fun i σ' H' => ∃ (x8 x9 x10 : Option V), σ' = [some (.ref a), some (.ref d), some (.ref Z), some (.ref fa), some (.ref ch), some (.ref sa), some w1, some (.ref pa), x8, x9, x10] ∧ Kp d H8 H' ∧ DI d l H' ∧ Kp d H14 H') ⟨_, _, _, rfl, k14, D14, Kp.refl _ _⟩ ?_ ?_ ?_
      · rintro i σ' H' _ ⟨_, _, _, _, _, _, k⟩
        exact SqL.of (k _ _ nA3d eA3)
      · rintro i x σ' H15 H16 hi ⟨x8, x9, x10, rfl, k15, D15, k1415⟩ ⟨rfl, hx⟩
        have hx : PpV H16 x := by
          have := List.mem_of_getElem? hx
          simp only [List.mem_cons, List.not_mem_nil, or_false] at this
          rcases this with rfl | rfl
          · exact pr1.to (kpTup D14 k1415)
          · exact pr2.to (kpTup D14 k1415)
        refine ⟨_, rfl, by show 1 ≤ sizeLine; decide, fun B1 nB1 => ?_⟩
        have nB1d := (D15.nd nB1).1
        have kB := (Kp.refl d H16).new (o := .lst [x]) nB1
        have DB := D15.new (o := .lst [x]) nB1
        have eB1 : upd H16 B1 (.lst [x]) B1 = some (.lst [x]) := upd_same
        have hx17 : PpV (upd H16 B1 (.lst [x])) x := hx.to (TK.new (TK.refl _) nB1)
        generalize upd H16 B1 (.lst [x]) = H17 at kB DB eB1 hx17
        have eZ17 := kB _ _ nZd (k1415 _ _ nZd eZ14)
        refine ⟨_, rfl, _, rfl, _, rfl, d, l, Z, x, _, _, _, rfl, DB, hx17, nZd, eZ17, fun H18 S1 sus k18 D18 nS1 eS1 lS1 hS1 => ?_⟩
        refine ⟨B1, S1, _, sus, rfl, rfl, k18 _ _ nB1d eB1, eS1, Nat.le_of_lt (szN (by show 1 + sus.length < 100000; omega)), fun U nU => ?_⟩
        have nUd := (D18.nd nU).1
        have k19 := (k15.trans (kB.trans k18)).new (o := .lst ([x] ++ sus)) nU
        have k1619 := (k1415.trans (kB.trans k18)).new (o := .lst ([x] ++ sus)) nU
        have D19 := D18.new (o := .lst ([x] ++ sus)) nU
        have eU : upd H18 U (.lst ([x] ++ sus)) U = some (.lst ([x] ++ sus)) := upd_same
        have hU : ∀ u ∈ [x] ++ sus, PpI 100 (upd H18 U (.lst ([x] ++ sus))) u := fun u hu => by
          rcases List.mem_append.mp hu with h | h
          · rw [List.mem_singleton.mp h]; exact hx17.pi.to (TK.new (kpTup DB k18) nU)
          · exact (hS1 u h).to (TK.new (TK.refl _) nU)
        have hx19 : PpV (upd H18 U (.lst ([x] ++ sus))) x := hx17.to (TK.new (kpTup DB k18) nU)
        generalize upd H18 U (.lst ([x] ++ sus)) = H19 at k19 k1619 D19 eU hU hx19
        generalize [x] ++ sus = uus at eU hU
        refine ⟨U, rfl, ⟨_, SqL.of eU⟩, ?_⟩
        have epa19 := kpTup D8 k19 _ _ epa
        refine for_it (walk_list (K := K) (a := U) (xs := uus)) (fun i σ' H' => ∃ (x10 : Option V), σ' = [some (.ref a), some (.ref d), some (.ref Z), some (.ref fa), some (.ref ch), some (.ref sa), some w1, some (.ref pa), x8, some x, x10] ∧ Same H19 H') ⟨_, rfl, Same.refl _⟩ ?_ ?_ ?_
        · rintro i σ' H' _ ⟨_, _, k⟩
          exact SqL.of (k _ _ eU)
        · rintro j y σ' H20 H21 hj ⟨x10, rfl, k20⟩ ⟨rfl, hy⟩
          have hy := (hU _ (List.mem_of_getElem? hy)).to (TK.same k20)
          obtain ⟨paper, b1, b2, b3, b4, b5⟩ := ask (k19.trans (Kp.of_same k20)) hy (by omega)
          refine ⟨_, rfl, _, rfl, _, rfl, _, rfl, .ref sa, w1, y, pa, F.length, R.length, F, C1, W1, DD, VR R, toI pl, paper, rfl, b1, o1, b2, o0, of1, by omega, lvs, by rw [toI_map]; exact k20 _ _ epa19, by rw [til]; omega, b3, b4, b5, fun H22 k22 => ?_⟩
          exact ⟨true, rfl, _, rfl, k20.trans k22⟩
        · rintro σ' H20 ⟨x10, rfl, k20⟩
          have k8_20 := k19.trans (Kp.of_same k20)
          have D20 := D19.keep k20
          have hx20 := hx19.to (TK.same k20)
          obtain ⟨_, chr, ech20, lR20, _, _, _⟩ := hch8.kp k8_20
          have lcr := lR20.1
          refine ⟨_, rfl, _, rfl, _, rfl, ch, _, rfl, .inl (SqL.of ech20), d, l, pa, R.length, toI pl, by rw [lcr]; rfl, D20, by rw [toI_map]; exact k20 _ _ epa19, by rw [til]; omega, fun H21 A4 bus k21 D21 nA4 eA4 lA4 hA4 => ?_⟩
          refine ⟨A4, rfl, ⟨_, SqL.of eA4⟩, ?_⟩
          have k8_21 := k8_20.trans k21
          have hx21 := hx20.to (kpTup D20 k21)
          refine for_it (walk_list (K := K) (a := A4) (xs := bus)) (fun i σ' H' => ∃ (x8 : Option V), σ' = [some (.ref a), some (.ref d), some (.ref Z), some (.ref fa), some (.ref ch), some (.ref sa), some w1, some (.ref pa), x8, some x, x10] ∧ Same H21 H') ⟨_, rfl, Same.refl _⟩ ?_ ?_ ?_
          · rintro i σ' H' _ ⟨_, _, k⟩
            exact SqL.of (k _ _ eA4)
          · rintro j y σ' H22 H23 hj ⟨x8, rfl, k22⟩ ⟨rfl, hy⟩
            obtain ⟨js, hjs, ljs⟩ := (hA4 _ (List.mem_of_getElem? hy)).to (TK.same k22)
            obtain ⟨ya, rfl, eya⟩ := hjs
            obtain ⟨paper, b1, b2, b3, b4, b5⟩ := ask (k8_21.trans (Kp.of_same k22)) (hx21.pi.to (TK.same k22)) (by omega)
            refine ⟨_, rfl, _, rfl, _, rfl, _, rfl, .ref sa, w1, x, ya, F.length, R.length, F, C1, W1, DD, VR R, js, paper, rfl, b1, o1, b2, o0, of1, by omega, lvs, eya, by omega, b3, b4, b5, fun H24 k24 => ?_⟩
            exact ⟨true, rfl, _, rfl, k22.trans k24⟩
          · rintro σ' H22 ⟨x8, rfl, k22⟩
            exact ⟨_, _, _, rfl, k8_21.trans (Kp.of_same k22), D21.keep k22, k1619.trans ((Kp.of_same k20 : Kp d H19 H20).trans (k21.trans (Kp.of_same k22)))⟩
      · rintro σ' H15 ⟨x8, x9, x10, rfl, k15, D15, _⟩
        have tk15 := kpTup D8 k15
        have hs15 := hs8.mn tk15
        have hv15 := VwR.mn.to hv8 tk15
        refine ⟨_, rfl, _, rfl, _, rfl, _, rfl, .ref sa, w1, F.length, R.length, F, C1, W1, DD, rfl, hs15, o1, hv15, o0, L1, of1, by omega, fun H16 p16 k16 hp16 => ?_⟩
        rw [epl] at hp16
        obtain ⟨pb16, rfl, epb16⟩ := hp16
        refine ⟨_, rfl, _, rfl, .ref sa, w1, F.length, R.length, F, C1, W1, DD, pl, rfl, hs15.mn (TK.same k16), o1, VwR.mn.to hv15 (TK.same k16), o0, L1, of1, by omega, epl, lpl, hpl, hcs, hpb, fun H17 c17 k17 hc17 => ?_⟩
        have lpap : (paperL F C1 W1 DD F.length (pubL pl F.length (csAt DD F.length pl))).length ≤ 1000 := by
          unfold paperL
          rw [List.length_map]
          refine Nat.le_trans (List.length_filter_le _ _) ?_
          unfold pubL
          rw [List.length_map]
          exact Nat.le_trans (List.length_filter_le _ _) (by rw [List.length_range]; omega)
        have k67 := k16.trans k17
        refine ⟨.ref sa, w1, c17, pb16, F.length, R.length, F, C1, W1, DD, toI pl, (paperL F C1 W1 DD F.length (pubL pl F.length (csAt DD F.length pl))).map toI, rfl, hs15.mn (TK.same k67), o1, VwR.mn.to hv15 (TK.same k67), o0, of1, by omega, hcl, by rw [toI_map]; exact k17 _ _ epb16, by rw [til]; omega, tupI hc17, by rw [List.length_map]; exact lpap, fun r hr => ?_, fun H18 k18 => ?_⟩
        · obtain ⟨c, hc, rfl⟩ := List.mem_map.mp hr
          rw [til]
          exact Nat.le_trans (paper_len c hc) (by decide)
        · rw [judge_true lvs lpl ok hpl hpb]
          exact ⟨true, rfl, q _⟩
end
theorem all_mk {l : PySem.W.OpenLaw} {w : World} {K : PySem.W.Frag} {h : Heap} {mg : Str → Option Value} {fa : Addr} (X : K.In h) (G : h.Ns mainGlobals mg) (hfa : mg "law" = some (.ref fa))
    {f_is_safe : Addr} {od_is_safe an_is_safe : Option Addr} {sl_is_safe : Array (Option Value)} {oc_is_safe kV_is_safe dc_is_safe pm_is_safe cd_is_safe ct_is_safe : Value}
    (a_is_safe : PySem.W.nsIn K mainGlobals "is_safe" = some (some (.ref f_is_safe))) (l_is_safe : K.lookup f_is_safe = some ⟨oc_is_safe, od_is_safe, .func (PySem.W.fnOf "is_safe" "is_safe" (defArgs s_is_safe) (defBody s_is_safe) (defScope s_is_safe) .none kV_is_safe dc_is_safe pm_is_safe an_is_safe cd_is_safe ct_is_safe), sl_is_safe⟩) (c_is_safe : PySem.W.codeIn K cd_is_safe "is_safe" = true) (k_is_safe : PySem.W.keepIn K (.ref f_is_safe) = true)
    {f_finest : Addr} {od_finest an_finest : Option Addr} {sl_finest : Array (Option Value)} {oc_finest kV_finest dc_finest pm_finest cd_finest ct_finest : Value}
    (a_finest : PySem.W.nsIn K mainGlobals "finest" = some (some (.ref f_finest))) (l_finest : K.lookup f_finest = some ⟨oc_finest, od_finest, .func (PySem.W.fnOf "finest" "finest" (defArgs s_finest) (defBody s_finest) (defScope s_finest) .none kV_finest dc_finest pm_finest an_finest cd_finest ct_finest), sl_finest⟩) (c_finest : PySem.W.codeIn K cd_finest "finest" = true) (k_finest : PySem.W.keepIn K (.ref f_finest) = true)
    {f_reasons_of : Addr} {od_reasons_of an_reasons_of : Option Addr} {sl_reasons_of : Array (Option Value)} {oc_reasons_of kV_reasons_of dc_reasons_of pm_reasons_of cd_reasons_of ct_reasons_of : Value}
    (a_reasons_of : PySem.W.nsIn K mainGlobals "reasons_of" = some (some (.ref f_reasons_of))) (l_reasons_of : K.lookup f_reasons_of = some ⟨oc_reasons_of, od_reasons_of, .func (PySem.W.fnOf "reasons_of" "reasons_of" (defArgs s_reasons_of) (defBody s_reasons_of) (defScope s_reasons_of) .none kV_reasons_of dc_reasons_of pm_reasons_of an_reasons_of cd_reasons_of ct_reasons_of), sl_reasons_of⟩) (c_reasons_of : PySem.W.codeIn K cd_reasons_of "reasons_of" = true) (k_reasons_of : PySem.W.keepIn K (.ref f_reasons_of) = true)
    {f_ways_in : Addr} {od_ways_in an_ways_in : Option Addr} {sl_ways_in : Array (Option Value)} {oc_ways_in kV_ways_in dc_ways_in pm_ways_in cd_ways_in ct_ways_in : Value}
    (a_ways_in : PySem.W.nsIn K mainGlobals "ways_in" = some (some (.ref f_ways_in))) (l_ways_in : K.lookup f_ways_in = some ⟨oc_ways_in, od_ways_in, .func (PySem.W.fnOf "ways_in" "ways_in" (defArgs s_ways_in) (defBody s_ways_in) (defScope s_ways_in) .none kV_ways_in dc_ways_in pm_ways_in an_ways_in cd_ways_in ct_ways_in), sl_ways_in⟩) (c_ways_in : PySem.W.codeIn K cd_ways_in "ways_in" = true) (k_ways_in : PySem.W.keepIn K (.ref f_ways_in) = true)
    {f_class_of : Addr} {od_class_of an_class_of : Option Addr} {sl_class_of : Array (Option Value)} {oc_class_of kV_class_of dc_class_of pm_class_of cd_class_of ct_class_of : Value}
    (a_class_of : PySem.W.nsIn K mainGlobals "class_of" = some (some (.ref f_class_of))) (l_class_of : K.lookup f_class_of = some ⟨oc_class_of, od_class_of, .func (PySem.W.fnOf "class_of" "class_of" (defArgs s_class_of) (defBody s_class_of) (defScope s_class_of) .none kV_class_of dc_class_of pm_class_of an_class_of cd_class_of ct_class_of), sl_class_of⟩) (c_class_of : PySem.W.codeIn K cd_class_of "class_of" = true) (k_class_of : PySem.W.keepIn K (.ref f_class_of) = true)
    {f_classes_at : Addr} {od_classes_at an_classes_at : Option Addr} {sl_classes_at : Array (Option Value)} {oc_classes_at kV_classes_at dc_classes_at pm_classes_at cd_classes_at ct_classes_at : Value}
    (a_classes_at : PySem.W.nsIn K mainGlobals "classes_at" = some (some (.ref f_classes_at))) (l_classes_at : K.lookup f_classes_at = some ⟨oc_classes_at, od_classes_at, .func (PySem.W.fnOf "classes_at" "classes_at" (defArgs s_classes_at) (defBody s_classes_at) (defScope s_classes_at) .none kV_classes_at dc_classes_at pm_classes_at an_classes_at cd_classes_at ct_classes_at), sl_classes_at⟩) (c_classes_at : PySem.W.codeIn K cd_classes_at "classes_at" = true) (k_classes_at : PySem.W.keepIn K (.ref f_classes_at) = true)
    {f_published : Addr} {od_published an_published : Option Addr} {sl_published : Array (Option Value)} {oc_published kV_published dc_published pm_published cd_published ct_published : Value}
    (a_published : PySem.W.nsIn K mainGlobals "published" = some (some (.ref f_published))) (l_published : K.lookup f_published = some ⟨oc_published, od_published, .func (PySem.W.fnOf "published" "published" (defArgs s_published) (defBody s_published) (defScope s_published) .none kV_published dc_published pm_published an_published cd_published ct_published), sl_published⟩) (c_published : PySem.W.codeIn K cd_published "published" = true) (k_published : PySem.W.keepIn K (.ref f_published) = true)
    {f_lacks_of : Addr} {od_lacks_of an_lacks_of : Option Addr} {sl_lacks_of : Array (Option Value)} {oc_lacks_of kV_lacks_of dc_lacks_of pm_lacks_of cd_lacks_of ct_lacks_of : Value}
    (a_lacks_of : PySem.W.nsIn K mainGlobals "lacks_of" = some (some (.ref f_lacks_of))) (l_lacks_of : K.lookup f_lacks_of = some ⟨oc_lacks_of, od_lacks_of, .func (PySem.W.fnOf "lacks_of" "lacks_of" (defArgs s_lacks_of) (defBody s_lacks_of) (defScope s_lacks_of) .none kV_lacks_of dc_lacks_of pm_lacks_of an_lacks_of cd_lacks_of ct_lacks_of), sl_lacks_of⟩) (c_lacks_of : PySem.W.codeIn K cd_lacks_of "lacks_of" = true) (k_lacks_of : PySem.W.keepIn K (.ref f_lacks_of) = true)
    {f_least_reason : Addr} {od_least_reason an_least_reason : Option Addr} {sl_least_reason : Array (Option Value)} {oc_least_reason kV_least_reason dc_least_reason pm_least_reason cd_least_reason ct_least_reason : Value}
    (a_least_reason : PySem.W.nsIn K mainGlobals "_least_reason" = some (some (.ref f_least_reason))) (l_least_reason : K.lookup f_least_reason = some ⟨oc_least_reason, od_least_reason, .func (PySem.W.fnOf "_least_reason" "_least_reason" (defArgs s_least_reason) (defBody s_least_reason) (defScope s_least_reason) .none kV_least_reason dc_least_reason pm_least_reason an_least_reason cd_least_reason ct_least_reason), sl_least_reason⟩) (c_least_reason : PySem.W.codeIn K cd_least_reason "_least_reason" = true) (k_least_reason : PySem.W.keepIn K (.ref f_least_reason) = true)
    {f_judge_plan : Addr} {od_judge_plan an_judge_plan : Option Addr} {sl_judge_plan : Array (Option Value)} {oc_judge_plan kV_judge_plan dc_judge_plan pm_judge_plan cd_judge_plan ct_judge_plan : Value}
    (a_judge_plan : PySem.W.nsIn K mainGlobals "judge_plan" = some (some (.ref f_judge_plan))) (l_judge_plan : K.lookup f_judge_plan = some ⟨oc_judge_plan, od_judge_plan, .func (PySem.W.fnOf "judge_plan" "judge_plan" (defArgs s_judge_plan) (defBody s_judge_plan) (defScope s_judge_plan) .none kV_judge_plan dc_judge_plan pm_judge_plan an_judge_plan cd_judge_plan ct_judge_plan), sl_judge_plan⟩) (c_judge_plan : PySem.W.codeIn K cd_judge_plan "judge_plan" = true) (k_judge_plan : PySem.W.keepIn K (.ref f_judge_plan) = true)
    {f_is_honest : Addr} {od_is_honest an_is_honest : Option Addr} {sl_is_honest : Array (Option Value)} {oc_is_honest kV_is_honest dc_is_honest pm_is_honest cd_is_honest ct_is_honest : Value}
    (a_is_honest : PySem.W.nsIn K mainGlobals "_is_honest" = some (some (.ref f_is_honest))) (l_is_honest : K.lookup f_is_honest = some ⟨oc_is_honest, od_is_honest, .func (PySem.W.fnOf "_is_honest" "_is_honest" (defArgs s_is_honest) (defBody s_is_honest) (defScope s_is_honest) .none kV_is_honest dc_is_honest pm_is_honest an_is_honest cd_is_honest ct_is_honest), sl_is_honest⟩) (c_is_honest : PySem.W.codeIn K cd_is_honest "_is_honest" = true) (k_is_honest : PySem.W.keepIn K (.ref f_is_honest) = true)
    {f_is_right : Addr} {od_is_right an_is_right : Option Addr} {sl_is_right : Array (Option Value)} {oc_is_right kV_is_right dc_is_right pm_is_right cd_is_right ct_is_right : Value}
    (a_is_right : PySem.W.nsIn K mainGlobals "_is_right" = some (some (.ref f_is_right))) (l_is_right : K.lookup f_is_right = some ⟨oc_is_right, od_is_right, .func (PySem.W.fnOf "_is_right" "_is_right" (defArgs s_is_right) (defBody s_is_right) (defScope s_is_right) .none kV_is_right dc_is_right pm_is_right an_is_right cd_is_right ct_is_right), sl_is_right⟩) (c_is_right : PySem.W.codeIn K cd_is_right "_is_right" = true) (k_is_right : PySem.W.keepIn K (.ref f_is_right) = true)
    {f_law_begin : Addr} {od_law_begin an_law_begin : Option Addr} {sl_law_begin : Array (Option Value)} {oc_law_begin kV_law_begin dc_law_begin pm_law_begin cd_law_begin ct_law_begin : Value}
    (a_law_begin : PySem.W.nsIn K mainGlobals "_law_begin" = some (some (.ref f_law_begin))) (l_law_begin : K.lookup f_law_begin = some ⟨oc_law_begin, od_law_begin, .func (PySem.W.fnOf "_law_begin" "_law_begin" (defArgs s_law_begin) (defBody s_law_begin) (defScope s_law_begin) .none kV_law_begin dc_law_begin pm_law_begin an_law_begin cd_law_begin ct_law_begin), sl_law_begin⟩) (c_law_begin : PySem.W.codeIn K cd_law_begin "_law_begin" = true) (k_law_begin : PySem.W.keepIn K (.ref f_law_begin) = true)
    {f_law_draw : Addr} {od_law_draw an_law_draw : Option Addr} {sl_law_draw : Array (Option Value)} {oc_law_draw kV_law_draw dc_law_draw pm_law_draw cd_law_draw ct_law_draw : Value}
    (a_law_draw : PySem.W.nsIn K mainGlobals "_law_draw" = some (some (.ref f_law_draw))) (l_law_draw : K.lookup f_law_draw = some ⟨oc_law_draw, od_law_draw, .func (PySem.W.fnOf "_law_draw" "_law_draw" (defArgs s_law_draw) (defBody s_law_draw) (defScope s_law_draw) .none kV_law_draw dc_law_draw pm_law_draw an_law_draw cd_law_draw ct_law_draw), sl_law_draw⟩) (c_law_draw : PySem.W.codeIn K cd_law_draw "_law_draw" = true) (k_law_draw : PySem.W.keepIn K (.ref f_law_draw) = true)
    {f_law_pick : Addr} {od_law_pick an_law_pick : Option Addr} {sl_law_pick : Array (Option Value)} {oc_law_pick kV_law_pick dc_law_pick pm_law_pick cd_law_pick ct_law_pick : Value}
    (a_law_pick : PySem.W.nsIn K mainGlobals "_law_pick" = some (some (.ref f_law_pick))) (l_law_pick : K.lookup f_law_pick = some ⟨oc_law_pick, od_law_pick, .func (PySem.W.fnOf "_law_pick" "_law_pick" (defArgs s_law_pick) (defBody s_law_pick) (defScope s_law_pick) .none kV_law_pick dc_law_pick pm_law_pick an_law_pick cd_law_pick ct_law_pick), sl_law_pick⟩) (c_law_pick : PySem.W.codeIn K cd_law_pick "_law_pick" = true) (k_law_pick : PySem.W.keepIn K (.ref f_law_pick) = true)
    {f_law_rare : Addr} {od_law_rare an_law_rare : Option Addr} {sl_law_rare : Array (Option Value)} {oc_law_rare kV_law_rare dc_law_rare pm_law_rare cd_law_rare ct_law_rare : Value}
    (a_law_rare : PySem.W.nsIn K mainGlobals "_law_rare" = some (some (.ref f_law_rare))) (l_law_rare : K.lookup f_law_rare = some ⟨oc_law_rare, od_law_rare, .func (PySem.W.fnOf "_law_rare" "_law_rare" (defArgs s_law_rare) (defBody s_law_rare) (defScope s_law_rare) .none kV_law_rare dc_law_rare pm_law_rare an_law_rare cd_law_rare ct_law_rare), sl_law_rare⟩) (c_law_rare : PySem.W.codeIn K cd_law_rare "_law_rare" = true) (k_law_rare : PySem.W.keepIn K (.ref f_law_rare) = true)
    {f_law_ways : Addr} {od_law_ways an_law_ways : Option Addr} {sl_law_ways : Array (Option Value)} {oc_law_ways kV_law_ways dc_law_ways pm_law_ways cd_law_ways ct_law_ways : Value}
    (a_law_ways : PySem.W.nsIn K mainGlobals "_law_ways" = some (some (.ref f_law_ways))) (l_law_ways : K.lookup f_law_ways = some ⟨oc_law_ways, od_law_ways, .func (PySem.W.fnOf "_law_ways" "_law_ways" (defArgs s_law_ways) (defBody s_law_ways) (defScope s_law_ways) .none kV_law_ways dc_law_ways pm_law_ways an_law_ways cd_law_ways ct_law_ways), sl_law_ways⟩) (c_law_ways : PySem.W.codeIn K cd_law_ways "_law_ways" = true) (k_law_ways : PySem.W.keepIn K (.ref f_law_ways) = true)
    {f_law_unsafe : Addr} {od_law_unsafe an_law_unsafe : Option Addr} {sl_law_unsafe : Array (Option Value)} {oc_law_unsafe kV_law_unsafe dc_law_unsafe pm_law_unsafe cd_law_unsafe ct_law_unsafe : Value}
    (a_law_unsafe : PySem.W.nsIn K mainGlobals "_law_unsafe" = some (some (.ref f_law_unsafe))) (l_law_unsafe : K.lookup f_law_unsafe = some ⟨oc_law_unsafe, od_law_unsafe, .func (PySem.W.fnOf "_law_unsafe" "_law_unsafe" (defArgs s_law_unsafe) (defBody s_law_unsafe) (defScope s_law_unsafe) .none kV_law_unsafe dc_law_unsafe pm_law_unsafe an_law_unsafe cd_law_unsafe ct_law_unsafe), sl_law_unsafe⟩) (c_law_unsafe : PySem.W.codeIn K cd_law_unsafe "_law_unsafe" = true) (k_law_unsafe : PySem.W.keepIn K (.ref f_law_unsafe) = true)
    {f_law_classes : Addr} {od_law_classes an_law_classes : Option Addr} {sl_law_classes : Array (Option Value)} {oc_law_classes kV_law_classes dc_law_classes pm_law_classes cd_law_classes ct_law_classes : Value}
    (a_law_classes : PySem.W.nsIn K mainGlobals "_law_classes" = some (some (.ref f_law_classes))) (l_law_classes : K.lookup f_law_classes = some ⟨oc_law_classes, od_law_classes, .func (PySem.W.fnOf "_law_classes" "_law_classes" (defArgs s_law_classes) (defBody s_law_classes) (defScope s_law_classes) .none kV_law_classes dc_law_classes pm_law_classes an_law_classes cd_law_classes ct_law_classes), sl_law_classes⟩) (c_law_classes : PySem.W.codeIn K cd_law_classes "_law_classes" = true) (k_law_classes : PySem.W.keepIn K (.ref f_law_classes) = true)
    {f_law_finest : Addr} {od_law_finest an_law_finest : Option Addr} {sl_law_finest : Array (Option Value)} {oc_law_finest kV_law_finest dc_law_finest pm_law_finest cd_law_finest ct_law_finest : Value}
    (a_law_finest : PySem.W.nsIn K mainGlobals "_law_finest" = some (some (.ref f_law_finest))) (l_law_finest : K.lookup f_law_finest = some ⟨oc_law_finest, od_law_finest, .func (PySem.W.fnOf "_law_finest" "_law_finest" (defArgs s_law_finest) (defBody s_law_finest) (defScope s_law_finest) .none kV_law_finest dc_law_finest pm_law_finest an_law_finest cd_law_finest ct_law_finest), sl_law_finest⟩) (c_law_finest : PySem.W.codeIn K cd_law_finest "_law_finest" = true) (k_law_finest : PySem.W.keepIn K (.ref f_law_finest) = true)
    {f_law_published : Addr} {od_law_published an_law_published : Option Addr} {sl_law_published : Array (Option Value)} {oc_law_published kV_law_published dc_law_published pm_law_published cd_law_published ct_law_published : Value}
    (a_law_published : PySem.W.nsIn K mainGlobals "_law_published" = some (some (.ref f_law_published))) (l_law_published : K.lookup f_law_published = some ⟨oc_law_published, od_law_published, .func (PySem.W.fnOf "_law_published" "_law_published" (defArgs s_law_published) (defBody s_law_published) (defScope s_law_published) .none kV_law_published dc_law_published pm_law_published an_law_published cd_law_published ct_law_published), sl_law_published⟩) (c_law_published : PySem.W.codeIn K cd_law_published "_law_published" = true) (k_law_published : PySem.W.keepIn K (.ref f_law_published) = true)
    {f_law_reasons : Addr} {od_law_reasons an_law_reasons : Option Addr} {sl_law_reasons : Array (Option Value)} {oc_law_reasons kV_law_reasons dc_law_reasons pm_law_reasons cd_law_reasons ct_law_reasons : Value}
    (a_law_reasons : PySem.W.nsIn K mainGlobals "_law_reasons" = some (some (.ref f_law_reasons))) (l_law_reasons : K.lookup f_law_reasons = some ⟨oc_law_reasons, od_law_reasons, .func (PySem.W.fnOf "_law_reasons" "_law_reasons" (defArgs s_law_reasons) (defBody s_law_reasons) (defScope s_law_reasons) .none kV_law_reasons dc_law_reasons pm_law_reasons an_law_reasons cd_law_reasons ct_law_reasons), sl_law_reasons⟩) (c_law_reasons : PySem.W.codeIn K cd_law_reasons "_law_reasons" = true) (k_law_reasons : PySem.W.keepIn K (.ref f_law_reasons) = true)
    {f_law_exact : Addr} {od_law_exact an_law_exact : Option Addr} {sl_law_exact : Array (Option Value)} {oc_law_exact kV_law_exact dc_law_exact pm_law_exact cd_law_exact ct_law_exact : Value}
    (a_law_exact : PySem.W.nsIn K mainGlobals "_law_exact" = some (some (.ref f_law_exact))) (l_law_exact : K.lookup f_law_exact = some ⟨oc_law_exact, od_law_exact, .func (PySem.W.fnOf "_law_exact" "_law_exact" (defArgs s_law_exact) (defBody s_law_exact) (defScope s_law_exact) .none kV_law_exact dc_law_exact pm_law_exact an_law_exact cd_law_exact ct_law_exact), sl_law_exact⟩) (c_law_exact : PySem.W.codeIn K cd_law_exact "_law_exact" = true) (k_law_exact : PySem.W.keepIn K (.ref f_law_exact) = true)
    {f_law_plan_fillings : Addr} {od_law_plan_fillings an_law_plan_fillings : Option Addr} {sl_law_plan_fillings : Array (Option Value)} {oc_law_plan_fillings kV_law_plan_fillings dc_law_plan_fillings pm_law_plan_fillings cd_law_plan_fillings ct_law_plan_fillings : Value}
    (a_law_plan_fillings : PySem.W.nsIn K mainGlobals "_law_plan_fillings" = some (some (.ref f_law_plan_fillings))) (l_law_plan_fillings : K.lookup f_law_plan_fillings = some ⟨oc_law_plan_fillings, od_law_plan_fillings, .func (PySem.W.fnOf "_law_plan_fillings" "_law_plan_fillings" (defArgs s_law_plan_fillings) (defBody s_law_plan_fillings) (defScope s_law_plan_fillings) .none kV_law_plan_fillings dc_law_plan_fillings pm_law_plan_fillings an_law_plan_fillings cd_law_plan_fillings ct_law_plan_fillings), sl_law_plan_fillings⟩) (c_law_plan_fillings : PySem.W.codeIn K cd_law_plan_fillings "_law_plan_fillings" = true) (k_law_plan_fillings : PySem.W.keepIn K (.ref f_law_plan_fillings) = true)
    {f_law_plan_chain : Addr} {od_law_plan_chain an_law_plan_chain : Option Addr} {sl_law_plan_chain : Array (Option Value)} {oc_law_plan_chain kV_law_plan_chain dc_law_plan_chain pm_law_plan_chain cd_law_plan_chain ct_law_plan_chain : Value}
    (a_law_plan_chain : PySem.W.nsIn K mainGlobals "_law_plan_chain" = some (some (.ref f_law_plan_chain))) (l_law_plan_chain : K.lookup f_law_plan_chain = some ⟨oc_law_plan_chain, od_law_plan_chain, .func (PySem.W.fnOf "_law_plan_chain" "_law_plan_chain" (defArgs s_law_plan_chain) (defBody s_law_plan_chain) (defScope s_law_plan_chain) .none kV_law_plan_chain dc_law_plan_chain pm_law_plan_chain an_law_plan_chain cd_law_plan_chain ct_law_plan_chain), sl_law_plan_chain⟩) (c_law_plan_chain : PySem.W.codeIn K cd_law_plan_chain "_law_plan_chain" = true) (k_law_plan_chain : PySem.W.keepIn K (.ref f_law_plan_chain) = true)
    {f_law_plan_counts : Addr} {od_law_plan_counts an_law_plan_counts : Option Addr} {sl_law_plan_counts : Array (Option Value)} {oc_law_plan_counts kV_law_plan_counts dc_law_plan_counts pm_law_plan_counts cd_law_plan_counts ct_law_plan_counts : Value}
    (a_law_plan_counts : PySem.W.nsIn K mainGlobals "_law_plan_counts" = some (some (.ref f_law_plan_counts))) (l_law_plan_counts : K.lookup f_law_plan_counts = some ⟨oc_law_plan_counts, od_law_plan_counts, .func (PySem.W.fnOf "_law_plan_counts" "_law_plan_counts" (defArgs s_law_plan_counts) (defBody s_law_plan_counts) (defScope s_law_plan_counts) .none kV_law_plan_counts dc_law_plan_counts pm_law_plan_counts an_law_plan_counts cd_law_plan_counts ct_law_plan_counts), sl_law_plan_counts⟩) (c_law_plan_counts : PySem.W.codeIn K cd_law_plan_counts "_law_plan_counts" = true) (k_law_plan_counts : PySem.W.keepIn K (.ref f_law_plan_counts) = true)
    {f_law_plan_groups : Addr} {od_law_plan_groups an_law_plan_groups : Option Addr} {sl_law_plan_groups : Array (Option Value)} {oc_law_plan_groups kV_law_plan_groups dc_law_plan_groups pm_law_plan_groups cd_law_plan_groups ct_law_plan_groups : Value}
    (a_law_plan_groups : PySem.W.nsIn K mainGlobals "_law_plan_groups" = some (some (.ref f_law_plan_groups))) (l_law_plan_groups : K.lookup f_law_plan_groups = some ⟨oc_law_plan_groups, od_law_plan_groups, .func (PySem.W.fnOf "_law_plan_groups" "_law_plan_groups" (defArgs s_law_plan_groups) (defBody s_law_plan_groups) (defScope s_law_plan_groups) .none kV_law_plan_groups dc_law_plan_groups pm_law_plan_groups an_law_plan_groups cd_law_plan_groups ct_law_plan_groups), sl_law_plan_groups⟩) (c_law_plan_groups : PySem.W.codeIn K cd_law_plan_groups "_law_plan_groups" = true) (k_law_plan_groups : PySem.W.keepIn K (.ref f_law_plan_groups) = true)
    {f_law_plan_least : Addr} {od_law_plan_least an_law_plan_least : Option Addr} {sl_law_plan_least : Array (Option Value)} {oc_law_plan_least kV_law_plan_least dc_law_plan_least pm_law_plan_least cd_law_plan_least ct_law_plan_least : Value}
    (a_law_plan_least : PySem.W.nsIn K mainGlobals "_law_plan_least" = some (some (.ref f_law_plan_least))) (l_law_plan_least : K.lookup f_law_plan_least = some ⟨oc_law_plan_least, od_law_plan_least, .func (PySem.W.fnOf "_law_plan_least" "_law_plan_least" (defArgs s_law_plan_least) (defBody s_law_plan_least) (defScope s_law_plan_least) .none kV_law_plan_least dc_law_plan_least pm_law_plan_least an_law_plan_least cd_law_plan_least ct_law_plan_least), sl_law_plan_least⟩) (c_law_plan_least : PySem.W.codeIn K cd_law_plan_least "_law_plan_least" = true) (k_law_plan_least : PySem.W.keepIn K (.ref f_law_plan_least) = true)
    {f_law_plan_watch : Addr} {od_law_plan_watch an_law_plan_watch : Option Addr} {sl_law_plan_watch : Array (Option Value)} {oc_law_plan_watch kV_law_plan_watch dc_law_plan_watch pm_law_plan_watch cd_law_plan_watch ct_law_plan_watch : Value}
    (a_law_plan_watch : PySem.W.nsIn K mainGlobals "_law_plan_watch" = some (some (.ref f_law_plan_watch))) (l_law_plan_watch : K.lookup f_law_plan_watch = some ⟨oc_law_plan_watch, od_law_plan_watch, .func (PySem.W.fnOf "_law_plan_watch" "_law_plan_watch" (defArgs s_law_plan_watch) (defBody s_law_plan_watch) (defScope s_law_plan_watch) .none kV_law_plan_watch dc_law_plan_watch pm_law_plan_watch an_law_plan_watch cd_law_plan_watch ct_law_plan_watch), sl_law_plan_watch⟩) (c_law_plan_watch : PySem.W.codeIn K cd_law_plan_watch "_law_plan_watch" = true) (k_law_plan_watch : PySem.W.keepIn K (.ref f_law_plan_watch) = true)
    {f_law_plan_scene : Addr} {od_law_plan_scene an_law_plan_scene : Option Addr} {sl_law_plan_scene : Array (Option Value)} {oc_law_plan_scene kV_law_plan_scene dc_law_plan_scene pm_law_plan_scene cd_law_plan_scene ct_law_plan_scene : Value}
    (a_law_plan_scene : PySem.W.nsIn K mainGlobals "_law_plan_scene" = some (some (.ref f_law_plan_scene))) (l_law_plan_scene : K.lookup f_law_plan_scene = some ⟨oc_law_plan_scene, od_law_plan_scene, .func (PySem.W.fnOf "_law_plan_scene" "_law_plan_scene" (defArgs s_law_plan_scene) (defBody s_law_plan_scene) (defScope s_law_plan_scene) .none kV_law_plan_scene dc_law_plan_scene pm_law_plan_scene an_law_plan_scene cd_law_plan_scene ct_law_plan_scene), sl_law_plan_scene⟩) (c_law_plan_scene : PySem.W.codeIn K cd_law_plan_scene "_law_plan_scene" = true) (k_law_plan_scene : PySem.W.keepIn K (.ref f_law_plan_scene) = true)
    {f_law_plan_value : Addr} {od_law_plan_value an_law_plan_value : Option Addr} {sl_law_plan_value : Array (Option Value)} {oc_law_plan_value kV_law_plan_value dc_law_plan_value pm_law_plan_value cd_law_plan_value ct_law_plan_value : Value}
    (a_law_plan_value : PySem.W.nsIn K mainGlobals "_law_plan_value" = some (some (.ref f_law_plan_value))) (l_law_plan_value : K.lookup f_law_plan_value = some ⟨oc_law_plan_value, od_law_plan_value, .func (PySem.W.fnOf "_law_plan_value" "_law_plan_value" (defArgs s_law_plan_value) (defBody s_law_plan_value) (defScope s_law_plan_value) .none kV_law_plan_value dc_law_plan_value pm_law_plan_value an_law_plan_value cd_law_plan_value ct_law_plan_value), sl_law_plan_value⟩) (c_law_plan_value : PySem.W.codeIn K cd_law_plan_value "_law_plan_value" = true) (k_law_plan_value : PySem.W.keepIn K (.ref f_law_plan_value) = true)
    {f_law_plan_views : Addr} {od_law_plan_views an_law_plan_views : Option Addr} {sl_law_plan_views : Array (Option Value)} {oc_law_plan_views kV_law_plan_views dc_law_plan_views pm_law_plan_views cd_law_plan_views ct_law_plan_views : Value}
    (a_law_plan_views : PySem.W.nsIn K mainGlobals "_law_plan_views" = some (some (.ref f_law_plan_views))) (l_law_plan_views : K.lookup f_law_plan_views = some ⟨oc_law_plan_views, od_law_plan_views, .func (PySem.W.fnOf "_law_plan_views" "_law_plan_views" (defArgs s_law_plan_views) (defBody s_law_plan_views) (defScope s_law_plan_views) .none kV_law_plan_views dc_law_plan_views pm_law_plan_views an_law_plan_views cd_law_plan_views ct_law_plan_views), sl_law_plan_views⟩) (c_law_plan_views : PySem.W.codeIn K cd_law_plan_views "_law_plan_views" = true) (k_law_plan_views : PySem.W.keepIn K (.ref f_law_plan_views) = true)
    {f_law_plan_rows : Addr} {od_law_plan_rows an_law_plan_rows : Option Addr} {sl_law_plan_rows : Array (Option Value)} {oc_law_plan_rows kV_law_plan_rows dc_law_plan_rows pm_law_plan_rows cd_law_plan_rows ct_law_plan_rows : Value}
    (a_law_plan_rows : PySem.W.nsIn K mainGlobals "_law_plan_rows" = some (some (.ref f_law_plan_rows))) (l_law_plan_rows : K.lookup f_law_plan_rows = some ⟨oc_law_plan_rows, od_law_plan_rows, .func (PySem.W.fnOf "_law_plan_rows" "_law_plan_rows" (defArgs s_law_plan_rows) (defBody s_law_plan_rows) (defScope s_law_plan_rows) .none kV_law_plan_rows dc_law_plan_rows pm_law_plan_rows an_law_plan_rows cd_law_plan_rows ct_law_plan_rows), sl_law_plan_rows⟩) (c_law_plan_rows : PySem.W.codeIn K cd_law_plan_rows "_law_plan_rows" = true) (k_law_plan_rows : PySem.W.keepIn K (.ref f_law_plan_rows) = true)
    {f_law_plan_takes : Addr} {od_law_plan_takes an_law_plan_takes : Option Addr} {sl_law_plan_takes : Array (Option Value)} {oc_law_plan_takes kV_law_plan_takes dc_law_plan_takes pm_law_plan_takes cd_law_plan_takes ct_law_plan_takes : Value}
    (a_law_plan_takes : PySem.W.nsIn K mainGlobals "_law_plan_takes" = some (some (.ref f_law_plan_takes))) (l_law_plan_takes : K.lookup f_law_plan_takes = some ⟨oc_law_plan_takes, od_law_plan_takes, .func (PySem.W.fnOf "_law_plan_takes" "_law_plan_takes" (defArgs s_law_plan_takes) (defBody s_law_plan_takes) (defScope s_law_plan_takes) .none kV_law_plan_takes dc_law_plan_takes pm_law_plan_takes an_law_plan_takes cd_law_plan_takes ct_law_plan_takes), sl_law_plan_takes⟩) (c_law_plan_takes : PySem.W.codeIn K cd_law_plan_takes "_law_plan_takes" = true) (k_law_plan_takes : PySem.W.keepIn K (.ref f_law_plan_takes) = true)
    {f_law_plan_papers : Addr} {od_law_plan_papers an_law_plan_papers : Option Addr} {sl_law_plan_papers : Array (Option Value)} {oc_law_plan_papers kV_law_plan_papers dc_law_plan_papers pm_law_plan_papers cd_law_plan_papers ct_law_plan_papers : Value}
    (a_law_plan_papers : PySem.W.nsIn K mainGlobals "_law_plan_papers" = some (some (.ref f_law_plan_papers))) (l_law_plan_papers : K.lookup f_law_plan_papers = some ⟨oc_law_plan_papers, od_law_plan_papers, .func (PySem.W.fnOf "_law_plan_papers" "_law_plan_papers" (defArgs s_law_plan_papers) (defBody s_law_plan_papers) (defScope s_law_plan_papers) .none kV_law_plan_papers dc_law_plan_papers pm_law_plan_papers an_law_plan_papers cd_law_plan_papers ct_law_plan_papers), sl_law_plan_papers⟩) (c_law_plan_papers : PySem.W.codeIn K cd_law_plan_papers "_law_plan_papers" = true) (k_law_plan_papers : PySem.W.keepIn K (.ref f_law_plan_papers) = true)
    {f_law_plan_tries : Addr} {od_law_plan_tries an_law_plan_tries : Option Addr} {sl_law_plan_tries : Array (Option Value)} {oc_law_plan_tries kV_law_plan_tries dc_law_plan_tries pm_law_plan_tries cd_law_plan_tries ct_law_plan_tries : Value}
    (a_law_plan_tries : PySem.W.nsIn K mainGlobals "_law_plan_tries" = some (some (.ref f_law_plan_tries))) (l_law_plan_tries : K.lookup f_law_plan_tries = some ⟨oc_law_plan_tries, od_law_plan_tries, .func (PySem.W.fnOf "_law_plan_tries" "_law_plan_tries" (defArgs s_law_plan_tries) (defBody s_law_plan_tries) (defScope s_law_plan_tries) .none kV_law_plan_tries dc_law_plan_tries pm_law_plan_tries an_law_plan_tries cd_law_plan_tries ct_law_plan_tries), sl_law_plan_tries⟩) (c_law_plan_tries : PySem.W.codeIn K cd_law_plan_tries "_law_plan_tries" = true) (k_law_plan_tries : PySem.W.keepIn K (.ref f_law_plan_tries) = true)
    {f_law_plan_number : Addr} {od_law_plan_number an_law_plan_number : Option Addr} {sl_law_plan_number : Array (Option Value)} {oc_law_plan_number kV_law_plan_number dc_law_plan_number pm_law_plan_number cd_law_plan_number ct_law_plan_number : Value}
    (a_law_plan_number : PySem.W.nsIn K mainGlobals "_law_plan_number" = some (some (.ref f_law_plan_number))) (l_law_plan_number : K.lookup f_law_plan_number = some ⟨oc_law_plan_number, od_law_plan_number, .func (PySem.W.fnOf "_law_plan_number" "_law_plan_number" (defArgs s_law_plan_number) (defBody s_law_plan_number) (defScope s_law_plan_number) .none kV_law_plan_number dc_law_plan_number pm_law_plan_number an_law_plan_number cd_law_plan_number ct_law_plan_number), sl_law_plan_number⟩) (c_law_plan_number : PySem.W.codeIn K cd_law_plan_number "_law_plan_number" = true) (k_law_plan_number : PySem.W.keepIn K (.ref f_law_plan_number) = true)
    {f_law_plan_bad : Addr} {od_law_plan_bad an_law_plan_bad : Option Addr} {sl_law_plan_bad : Array (Option Value)} {oc_law_plan_bad kV_law_plan_bad dc_law_plan_bad pm_law_plan_bad cd_law_plan_bad ct_law_plan_bad : Value}
    (a_law_plan_bad : PySem.W.nsIn K mainGlobals "_law_plan_bad" = some (some (.ref f_law_plan_bad))) (l_law_plan_bad : K.lookup f_law_plan_bad = some ⟨oc_law_plan_bad, od_law_plan_bad, .func (PySem.W.fnOf "_law_plan_bad" "_law_plan_bad" (defArgs s_law_plan_bad) (defBody s_law_plan_bad) (defScope s_law_plan_bad) .none kV_law_plan_bad dc_law_plan_bad pm_law_plan_bad an_law_plan_bad cd_law_plan_bad ct_law_plan_bad), sl_law_plan_bad⟩) (c_law_plan_bad : PySem.W.codeIn K cd_law_plan_bad "_law_plan_bad" = true) (k_law_plan_bad : PySem.W.keepIn K (.ref f_law_plan_bad) = true)
    {f_law_plan_spoilt : Addr} {od_law_plan_spoilt an_law_plan_spoilt : Option Addr} {sl_law_plan_spoilt : Array (Option Value)} {oc_law_plan_spoilt kV_law_plan_spoilt dc_law_plan_spoilt pm_law_plan_spoilt cd_law_plan_spoilt ct_law_plan_spoilt : Value}
    (a_law_plan_spoilt : PySem.W.nsIn K mainGlobals "_law_plan_spoilt" = some (some (.ref f_law_plan_spoilt))) (l_law_plan_spoilt : K.lookup f_law_plan_spoilt = some ⟨oc_law_plan_spoilt, od_law_plan_spoilt, .func (PySem.W.fnOf "_law_plan_spoilt" "_law_plan_spoilt" (defArgs s_law_plan_spoilt) (defBody s_law_plan_spoilt) (defScope s_law_plan_spoilt) .none kV_law_plan_spoilt dc_law_plan_spoilt pm_law_plan_spoilt an_law_plan_spoilt cd_law_plan_spoilt ct_law_plan_spoilt), sl_law_plan_spoilt⟩) (c_law_plan_spoilt : PySem.W.codeIn K cd_law_plan_spoilt "_law_plan_spoilt" = true) (k_law_plan_spoilt : PySem.W.keepIn K (.ref f_law_plan_spoilt) = true)
    {f_law_plan_bent : Addr} {od_law_plan_bent an_law_plan_bent : Option Addr} {sl_law_plan_bent : Array (Option Value)} {oc_law_plan_bent kV_law_plan_bent dc_law_plan_bent pm_law_plan_bent cd_law_plan_bent ct_law_plan_bent : Value}
    (a_law_plan_bent : PySem.W.nsIn K mainGlobals "_law_plan_bent" = some (some (.ref f_law_plan_bent))) (l_law_plan_bent : K.lookup f_law_plan_bent = some ⟨oc_law_plan_bent, od_law_plan_bent, .func (PySem.W.fnOf "_law_plan_bent" "_law_plan_bent" (defArgs s_law_plan_bent) (defBody s_law_plan_bent) (defScope s_law_plan_bent) .none kV_law_plan_bent dc_law_plan_bent pm_law_plan_bent an_law_plan_bent cd_law_plan_bent ct_law_plan_bent), sl_law_plan_bent⟩) (c_law_plan_bent : PySem.W.codeIn K cd_law_plan_bent "_law_plan_bent" = true) (k_law_plan_bent : PySem.W.keepIn K (.ref f_law_plan_bent) = true)
    {f_law_plan_asked : Addr} {od_law_plan_asked an_law_plan_asked : Option Addr} {sl_law_plan_asked : Array (Option Value)} {oc_law_plan_asked kV_law_plan_asked dc_law_plan_asked pm_law_plan_asked cd_law_plan_asked ct_law_plan_asked : Value}
    (a_law_plan_asked : PySem.W.nsIn K mainGlobals "_law_plan_asked" = some (some (.ref f_law_plan_asked))) (l_law_plan_asked : K.lookup f_law_plan_asked = some ⟨oc_law_plan_asked, od_law_plan_asked, .func (PySem.W.fnOf "_law_plan_asked" "_law_plan_asked" (defArgs s_law_plan_asked) (defBody s_law_plan_asked) (defScope s_law_plan_asked) .none kV_law_plan_asked dc_law_plan_asked pm_law_plan_asked an_law_plan_asked cd_law_plan_asked ct_law_plan_asked), sl_law_plan_asked⟩) (c_law_plan_asked : PySem.W.codeIn K cd_law_plan_asked "_law_plan_asked" = true) (k_law_plan_asked : PySem.W.keepIn K (.ref f_law_plan_asked) = true)
    {f_law : Addr} {od_law an_law : Option Addr} {sl_law : Array (Option Value)} {oc_law kV_law dc_law pm_law cd_law ct_law : Value}
    (a_law : PySem.W.nsIn K mainGlobals "law" = some (some (.ref f_law))) (l_law : K.lookup f_law = some ⟨oc_law, od_law, .func (PySem.W.fnOf "law" "law" (defArgs s_law) (defBody s_law) (defScope s_law) .none kV_law dc_law pm_law an_law cd_law ct_law), sl_law⟩) (c_law : PySem.W.codeIn K cd_law "law" = true) (k_law : PySem.W.keepIn K (.ref f_law) = true)
    (n_all : PySem.W.nsIn K mainGlobals "all" = some none)
    (n_bool : PySem.W.nsIn K mainGlobals "bool" = some none)
    (n_enumerate : PySem.W.nsIn K mainGlobals "enumerate" = some none)
    (n_int : PySem.W.nsIn K mainGlobals "int" = some none)
    (n_isinstance : PySem.W.nsIn K mainGlobals "isinstance" = some none)
    (n_len : PySem.W.nsIn K mainGlobals "len" = some none)
    (n_list : PySem.W.nsIn K mainGlobals "list" = some none)
    (n_max : PySem.W.nsIn K mainGlobals "max" = some none)
    (n_min : PySem.W.nsIn K mainGlobals "min" = some none)
    (n_range : PySem.W.nsIn K mainGlobals "range" = some none)
    (n_sorted : PySem.W.nsIn K mainGlobals "sorted" = some none)
    (n_str : PySem.W.nsIn K mainGlobals "str" = some none)
    (n_sum : PySem.W.nsIn K mainGlobals "sum" = some none)
    (n_tuple : PySem.W.nsIn K mainGlobals "tuple" = some none)
    (n_zip : PySem.W.nsIn K mainGlobals "zip" = some none)
    : ∃ fd : FuncData, (∀ (s : Shared) (v : Value), BindsTo s fd ⟨[v], []⟩ [("_law_script", v)]) ∧ ∀ base : Heap, K.In base → base.Ns mainGlobals mg → FnOk l.prog w K mg base CX0 6 fa fd ["_law_script"] (spLaw K) := by
  have e := hfa.symm.trans (PySem.W.mg_of X G a_law)
  cases e
  have F_is_safe := fun_mk (st := s_is_safe) l_is_safe c_is_safe k_is_safe
  have b_is_safe := F_is_safe.binds (ps := ["scene", "members"]) fun _ _ _ _ _ _ us hl => match us, hl with | [_, _], _ => rfl
  have F_finest := fun_mk (st := s_finest) l_finest c_finest k_finest
  have b_finest := F_finest.binds (ps := ["scene", "views"]) fun _ _ _ _ _ _ us hl => match us, hl with | [_, _], _ => rfl
  have F_reasons_of := fun_mk (st := s_reasons_of) l_reasons_of c_reasons_of k_reasons_of
  have b_reasons_of := F_reasons_of.binds (ps := ["scene", "views"]) fun _ _ _ _ _ _ us hl => match us, hl with | [_, _], _ => rfl
  have F_ways_in := fun_mk (st := s_ways_in) l_ways_in c_ways_in k_ways_in
  have b_ways_in := F_ways_in.binds (ps := ["counts", "fillings", "secret"]) fun _ _ _ _ _ _ us hl => match us, hl with | [_, _, _], _ => rfl
  have F_class_of := fun_mk (st := s_class_of) l_class_of c_class_of k_class_of
  have b_class_of := F_class_of.binds (ps := ["views", "level", "k"]) fun _ _ _ _ _ _ us hl => match us, hl with | [_, _, _], _ => rfl
  have F_classes_at := fun_mk (st := s_classes_at) l_classes_at c_classes_at k_classes_at
  have b_classes_at := F_classes_at.binds (ps := ["views", "level", "members"]) fun _ _ _ _ _ _ us hl => match us, hl with | [_, _, _], _ => rfl
  have F_published := fun_mk (st := s_published) l_published c_published k_published
  have b_published := F_published.binds (ps := ["views", "plan"]) fun _ _ _ _ _ _ us hl => match us, hl with | [_, _], _ => rfl
  have F_lacks_of := fun_mk (st := s_lacks_of) l_lacks_of c_lacks_of k_lacks_of
  have b_lacks_of := F_lacks_of.binds (ps := ["scene", "part", "k"]) fun _ _ _ _ _ _ us hl => match us, hl with | [_, _, _], _ => rfl
  have F_least_reason := fun_mk (st := s_least_reason) l_least_reason c_least_reason k_least_reason
  have b_least_reason := F_least_reason.binds (ps := ["scene", "views", "level", "members"]) fun _ _ _ _ _ _ us hl => match us, hl with | [_, _, _, _], _ => rfl
  have F_judge_plan := fun_mk (st := s_judge_plan) l_judge_plan c_judge_plan k_judge_plan
  have b_judge_plan := F_judge_plan.binds (ps := ["scene", "views", "plan", "paper"]) fun _ _ _ _ _ _ us hl => match us, hl with | [_, _, _, _], _ => rfl
  have F_is_honest := fun_mk (st := s_is_honest) l_is_honest c_is_honest k_is_honest
  have b_is_honest := F_is_honest.binds (ps := ["views", "plan"]) fun _ _ _ _ _ _ us hl => match us, hl with | [_, _], _ => rfl
  have F_is_right := fun_mk (st := s_is_right) l_is_right c_is_right k_is_right
  have b_is_right := F_is_right.binds (ps := ["scene", "views", "level", "members", "reason"]) fun _ _ _ _ _ _ us hl => match us, hl with | [_, _, _, _, _], _ => rfl
  have F_law_begin := fun_mk (st := s_law_begin) l_law_begin c_law_begin k_law_begin
  have b_law_begin := F_law_begin.binds (ps := ["_law_script"]) fun _ _ _ _ _ _ us hl => match us, hl with | [_], _ => rfl
  have F_law_draw := fun_mk (st := s_law_draw) l_law_draw c_law_draw k_law_draw
  have b_law_draw := F_law_draw.binds (ps := ["_law_d", "_law_many"]) fun _ _ _ _ _ _ us hl => match us, hl with | [_, _], _ => rfl
  have F_law_pick := fun_mk (st := s_law_pick) l_law_pick c_law_pick k_law_pick
  have b_law_pick := F_law_pick.binds (ps := ["_law_d", "_law_row"]) fun _ _ _ _ _ _ us hl => match us, hl with | [_, _], _ => rfl
  have F_law_rare := fun_mk (st := s_law_rare) l_law_rare c_law_rare k_law_rare
  have b_law_rare := F_law_rare.binds (ps := ["_law_d", "_law_many"]) fun _ _ _ _ _ _ us hl => match us, hl with | [_, _], _ => rfl
  have F_law_ways := fun_mk (st := s_law_ways) l_law_ways c_law_ways k_law_ways
  have b_law_ways := F_law_ways.binds (ps := ["_law_counts", "_law_fillings", "_law_secret"]) fun _ _ _ _ _ _ us hl => match us, hl with | [_, _, _], _ => rfl
  have F_law_unsafe := fun_mk (st := s_law_unsafe) l_law_unsafe c_law_unsafe k_law_unsafe
  have b_law_unsafe := F_law_unsafe.binds (ps := ["_law_scene", "_law_members"]) fun _ _ _ _ _ _ us hl => match us, hl with | [_, _], _ => rfl
  have F_law_classes := fun_mk (st := s_law_classes) l_law_classes c_law_classes k_law_classes
  have b_law_classes := F_law_classes.binds (ps := ["_law_views", "_law_members", "_law_level"]) fun _ _ _ _ _ _ us hl => match us, hl with | [_, _, _], _ => rfl
  have F_law_finest := fun_mk (st := s_law_finest) l_law_finest c_law_finest k_law_finest
  have b_law_finest := F_law_finest.binds (ps := ["_law_scene", "_law_views"]) fun _ _ _ _ _ _ us hl => match us, hl with | [_, _], _ => rfl
  have F_law_published := fun_mk (st := s_law_published) l_law_published c_law_published k_law_published
  have b_law_published := F_law_published.binds (ps := ["_law_views", "_law_plan"]) fun _ _ _ _ _ _ us hl => match us, hl with | [_, _], _ => rfl
  have F_law_reasons := fun_mk (st := s_law_reasons) l_law_reasons c_law_reasons k_law_reasons
  have b_law_reasons := F_law_reasons.binds (ps := ["_law_scene", "_law_views", "_law_plan"]) fun _ _ _ _ _ _ us hl => match us, hl with | [_, _, _], _ => rfl
  have F_law_exact := fun_mk (st := s_law_exact) l_law_exact c_law_exact k_law_exact
  have b_law_exact := F_law_exact.binds (ps := ["_law_told", "_law_due"]) fun _ _ _ _ _ _ us hl => match us, hl with | [_, _], _ => rfl
  have F_law_plan_fillings := fun_mk (st := s_law_plan_fillings) l_law_plan_fillings c_law_plan_fillings k_law_plan_fillings
  have b_law_plan_fillings := F_law_plan_fillings.binds (ps := ["_law_d", "_law_turns"]) fun _ _ _ _ _ _ us hl => match us, hl with | [_, _], _ => rfl
  have F_law_plan_chain := fun_mk (st := s_law_plan_chain) l_law_plan_chain c_law_plan_chain k_law_plan_chain
  have b_law_plan_chain := F_law_plan_chain.binds (ps := ["_law_d", "_law_n", "_law_levels"]) fun _ _ _ _ _ _ us hl => match us, hl with | [_, _, _], _ => rfl
  have F_law_plan_counts := fun_mk (st := s_law_plan_counts) l_law_plan_counts c_law_plan_counts k_law_plan_counts
  have b_law_plan_counts := F_law_plan_counts.binds (ps := ["_law_d", "_law_sizes", "_law_fillings"]) fun _ _ _ _ _ _ us hl => match us, hl with | [_, _, _], _ => rfl
  have F_law_plan_groups := fun_mk (st := s_law_plan_groups) l_law_plan_groups c_law_plan_groups k_law_plan_groups
  have b_law_plan_groups := F_law_plan_groups.binds (ps := ["_law_d", "_law_n"]) fun _ _ _ _ _ _ us hl => match us, hl with | [_, _], _ => rfl
  have F_law_plan_least := fun_mk (st := s_law_plan_least) l_law_plan_least c_law_plan_least k_law_plan_least
  have b_law_plan_least := F_law_plan_least.binds (ps := ["_law_d", "_law_counts", "_law_fillings", "_law_inside", "_law_s", "_law_chain"]) fun _ _ _ _ _ _ us hl => match us, hl with | [_, _, _, _, _, _], _ => rfl
  have F_law_plan_watch := fun_mk (st := s_law_plan_watch) l_law_plan_watch c_law_plan_watch k_law_plan_watch
  have b_law_plan_watch := F_law_plan_watch.binds (ps := ["_law_d", "_law_counts", "_law_fillings", "_law_chain"]) fun _ _ _ _ _ _ us hl => match us, hl with | [_, _, _, _], _ => rfl
  have F_law_plan_scene := fun_mk (st := s_law_plan_scene) l_law_plan_scene c_law_plan_scene k_law_plan_scene
  have b_law_plan_scene := F_law_plan_scene.binds (ps := ["_law_d", "_law_sizes", "_law_fillings", "_law_chain"]) fun _ _ _ _ _ _ us hl => match us, hl with | [_, _, _, _], _ => rfl
  have F_law_plan_value := fun_mk (st := s_law_plan_value) l_law_plan_value c_law_plan_value k_law_plan_value
  have b_law_plan_value := F_law_plan_value.binds (ps := ["_law_kind", "_law_mark"]) fun _ _ _ _ _ _ us hl => match us, hl with | [_, _], _ => rfl
  have F_law_plan_views := fun_mk (st := s_law_plan_views) l_law_plan_views c_law_plan_views k_law_plan_views
  have b_law_plan_views := F_law_plan_views.binds (ps := ["_law_d", "_law_chain"]) fun _ _ _ _ _ _ us hl => match us, hl with | [_, _], _ => rfl
  have F_law_plan_rows := fun_mk (st := s_law_plan_rows) l_law_plan_rows c_law_plan_rows k_law_plan_rows
  have b_law_plan_rows := F_law_plan_rows.binds (ps := ["_law_scene", "_law_views", "_law_members", "_law_level"]) fun _ _ _ _ _ _ us hl => match us, hl with | [_, _, _, _], _ => rfl
  have F_law_plan_takes := fun_mk (st := s_law_plan_takes) l_law_plan_takes c_law_plan_takes k_law_plan_takes
  have b_law_plan_takes := F_law_plan_takes.binds (ps := ["_law_scene", "_law_views", "_law_plan", "_law_paper"]) fun _ _ _ _ _ _ us hl => match us, hl with | [_, _, _, _], _ => rfl
  have F_law_plan_papers := fun_mk (st := s_law_plan_papers) l_law_plan_papers c_law_plan_papers k_law_plan_papers
  have b_law_plan_papers := F_law_plan_papers.binds (ps := ["_law_d", "_law_scene", "_law_views", "_law_plan"]) fun _ _ _ _ _ _ us hl => match us, hl with | [_, _, _, _], _ => rfl
  have F_law_plan_tries := fun_mk (st := s_law_plan_tries) l_law_plan_tries c_law_plan_tries k_law_plan_tries
  have b_law_plan_tries := F_law_plan_tries.binds (ps := ["_law_d", "_law_chain", "_law_best"]) fun _ _ _ _ _ _ us hl => match us, hl with | [_, _, _], _ => rfl
  have F_law_plan_number := fun_mk (st := s_law_plan_number) l_law_plan_number c_law_plan_number k_law_plan_number
  have b_law_plan_number := F_law_plan_number.binds (ps := ["_law_number", "_law_n", "_law_levels"]) fun _ _ _ _ _ _ us hl => match us, hl with | [_, _, _], _ => rfl
  have F_law_plan_bad := fun_mk (st := s_law_plan_bad) l_law_plan_bad c_law_plan_bad k_law_plan_bad
  have b_law_plan_bad := F_law_plan_bad.binds (ps := ["_law_d", "_law_right", "_law_many"]) fun _ _ _ _ _ _ us hl => match us, hl with | [_, _, _], _ => rfl
  have F_law_plan_spoilt := fun_mk (st := s_law_plan_spoilt) l_law_plan_spoilt c_law_plan_spoilt k_law_plan_spoilt
  have b_law_plan_spoilt := F_law_plan_spoilt.binds (ps := ["_law_d", "_law_paper", "_law_sizes"]) fun _ _ _ _ _ _ us hl => match us, hl with | [_, _, _], _ => rfl
  have F_law_plan_bent := fun_mk (st := s_law_plan_bent) l_law_plan_bent c_law_plan_bent k_law_plan_bent
  have b_law_plan_bent := F_law_plan_bent.binds (ps := ["_law_d", "_law_plan", "_law_levels"]) fun _ _ _ _ _ _ us hl => match us, hl with | [_, _, _], _ => rfl
  have F_law_plan_asked := fun_mk (st := s_law_plan_asked) l_law_plan_asked c_law_plan_asked k_law_plan_asked
  have b_law_plan_asked := F_law_plan_asked.binds (ps := ["_law_scene", "_law_views", "_law_plan", "_law_paper"]) fun _ _ _ _ _ _ us hl => match us, hl with | [_, _, _, _], _ => rfl
  have F_law := fun_mk (st := s_law) l_law c_law k_law
  have b_law := F_law.binds (ps := ["_law_script"]) fun _ _ _ _ _ _ us hl => match us, hl with | [_], _ => rfl
  exact ⟨PySem.W.fnOf "law" "law" (defArgs s_law) (defBody s_law) (defScope s_law) .none kV_law dc_law pm_law an_law cd_law ct_law, fun s v => .of_eq rfl, fun base _ _ => ok_law (T := {
    a_is_safe := _,
    d_is_safe := _,
    D_is_safe := ⟨F_is_safe, PySem.W.mg_of X G a_is_safe, b_is_safe, ⟨_, _, _, _, _, _, rfl⟩⟩,
    a_finest := _,
    d_finest := _,
    D_finest := ⟨F_finest, PySem.W.mg_of X G a_finest, b_finest, ⟨_, _, _, _, _, _, rfl⟩⟩,
    a_reasons_of := _,
    d_reasons_of := _,
    D_reasons_of := ⟨F_reasons_of, PySem.W.mg_of X G a_reasons_of, b_reasons_of, ⟨_, _, _, _, _, _, rfl⟩⟩,
    a_ways_in := _,
    d_ways_in := _,
    D_ways_in := ⟨F_ways_in, PySem.W.mg_of X G a_ways_in, b_ways_in, ⟨_, _, _, _, _, _, rfl⟩⟩,
    a_class_of := _,
    d_class_of := _,
    D_class_of := ⟨F_class_of, PySem.W.mg_of X G a_class_of, b_class_of, ⟨_, _, _, _, _, _, rfl⟩⟩,
    a_classes_at := _,
    d_classes_at := _,
    D_classes_at := ⟨F_classes_at, PySem.W.mg_of X G a_classes_at, b_classes_at, ⟨_, _, _, _, _, _, rfl⟩⟩,
    a_published := _,
    d_published := _,
    D_published := ⟨F_published, PySem.W.mg_of X G a_published, b_published, ⟨_, _, _, _, _, _, rfl⟩⟩,
    a_lacks_of := _,
    d_lacks_of := _,
    D_lacks_of := ⟨F_lacks_of, PySem.W.mg_of X G a_lacks_of, b_lacks_of, ⟨_, _, _, _, _, _, rfl⟩⟩,
    a_least_reason := _,
    d_least_reason := _,
    D_least_reason := ⟨F_least_reason, PySem.W.mg_of X G a_least_reason, b_least_reason, ⟨_, _, _, _, _, _, rfl⟩⟩,
    a_judge_plan := _,
    d_judge_plan := _,
    D_judge_plan := ⟨F_judge_plan, PySem.W.mg_of X G a_judge_plan, b_judge_plan, ⟨_, _, _, _, _, _, rfl⟩⟩,
    a_is_honest := _,
    d_is_honest := _,
    D_is_honest := ⟨F_is_honest, PySem.W.mg_of X G a_is_honest, b_is_honest, ⟨_, _, _, _, _, _, rfl⟩⟩,
    a_is_right := _,
    d_is_right := _,
    D_is_right := ⟨F_is_right, PySem.W.mg_of X G a_is_right, b_is_right, ⟨_, _, _, _, _, _, rfl⟩⟩,
    a_law_begin := _,
    d_law_begin := _,
    D_law_begin := ⟨F_law_begin, PySem.W.mg_of X G a_law_begin, b_law_begin, ⟨_, _, _, _, _, _, rfl⟩⟩,
    a_law_draw := _,
    d_law_draw := _,
    D_law_draw := ⟨F_law_draw, PySem.W.mg_of X G a_law_draw, b_law_draw, ⟨_, _, _, _, _, _, rfl⟩⟩,
    a_law_pick := _,
    d_law_pick := _,
    D_law_pick := ⟨F_law_pick, PySem.W.mg_of X G a_law_pick, b_law_pick, ⟨_, _, _, _, _, _, rfl⟩⟩,
    a_law_rare := _,
    d_law_rare := _,
    D_law_rare := ⟨F_law_rare, PySem.W.mg_of X G a_law_rare, b_law_rare, ⟨_, _, _, _, _, _, rfl⟩⟩,
    a_law_ways := _,
    d_law_ways := _,
    D_law_ways := ⟨F_law_ways, PySem.W.mg_of X G a_law_ways, b_law_ways, ⟨_, _, _, _, _, _, rfl⟩⟩,
    a_law_unsafe := _,
    d_law_unsafe := _,
    D_law_unsafe := ⟨F_law_unsafe, PySem.W.mg_of X G a_law_unsafe, b_law_unsafe, ⟨_, _, _, _, _, _, rfl⟩⟩,
    a_law_classes := _,
    d_law_classes := _,
    D_law_classes := ⟨F_law_classes, PySem.W.mg_of X G a_law_classes, b_law_classes, ⟨_, _, _, _, _, _, rfl⟩⟩,
    a_law_finest := _,
    d_law_finest := _,
    D_law_finest := ⟨F_law_finest, PySem.W.mg_of X G a_law_finest, b_law_finest, ⟨_, _, _, _, _, _, rfl⟩⟩,
    a_law_published := _,
    d_law_published := _,
    D_law_published := ⟨F_law_published, PySem.W.mg_of X G a_law_published, b_law_published, ⟨_, _, _, _, _, _, rfl⟩⟩,
    a_law_reasons := _,
    d_law_reasons := _,
    D_law_reasons := ⟨F_law_reasons, PySem.W.mg_of X G a_law_reasons, b_law_reasons, ⟨_, _, _, _, _, _, rfl⟩⟩,
    a_law_exact := _,
    d_law_exact := _,
    D_law_exact := ⟨F_law_exact, PySem.W.mg_of X G a_law_exact, b_law_exact, ⟨_, _, _, _, _, _, rfl⟩⟩,
    a_law_plan_fillings := _,
    d_law_plan_fillings := _,
    D_law_plan_fillings := ⟨F_law_plan_fillings, PySem.W.mg_of X G a_law_plan_fillings, b_law_plan_fillings, ⟨_, _, _, _, _, _, rfl⟩⟩,
    a_law_plan_chain := _,
    d_law_plan_chain := _,
    D_law_plan_chain := ⟨F_law_plan_chain, PySem.W.mg_of X G a_law_plan_chain, b_law_plan_chain, ⟨_, _, _, _, _, _, rfl⟩⟩,
    a_law_plan_counts := _,
    d_law_plan_counts := _,
    D_law_plan_counts := ⟨F_law_plan_counts, PySem.W.mg_of X G a_law_plan_counts, b_law_plan_counts, ⟨_, _, _, _, _, _, rfl⟩⟩,
    a_law_plan_groups := _,
    d_law_plan_groups := _,
    D_law_plan_groups := ⟨F_law_plan_groups, PySem.W.mg_of X G a_law_plan_groups, b_law_plan_groups, ⟨_, _, _, _, _, _, rfl⟩⟩,
    a_law_plan_least := _,
    d_law_plan_least := _,
    D_law_plan_least := ⟨F_law_plan_least, PySem.W.mg_of X G a_law_plan_least, b_law_plan_least, ⟨_, _, _, _, _, _, rfl⟩⟩,
    a_law_plan_watch := _,
    d_law_plan_watch := _,
    D_law_plan_watch := ⟨F_law_plan_watch, PySem.W.mg_of X G a_law_plan_watch, b_law_plan_watch, ⟨_, _, _, _, _, _, rfl⟩⟩,
    a_law_plan_scene := _,
    d_law_plan_scene := _,
    D_law_plan_scene := ⟨F_law_plan_scene, PySem.W.mg_of X G a_law_plan_scene, b_law_plan_scene, ⟨_, _, _, _, _, _, rfl⟩⟩,
    a_law_plan_value := _,
    d_law_plan_value := _,
    D_law_plan_value := ⟨F_law_plan_value, PySem.W.mg_of X G a_law_plan_value, b_law_plan_value, ⟨_, _, _, _, _, _, rfl⟩⟩,
    a_law_plan_views := _,
    d_law_plan_views := _,
    D_law_plan_views := ⟨F_law_plan_views, PySem.W.mg_of X G a_law_plan_views, b_law_plan_views, ⟨_, _, _, _, _, _, rfl⟩⟩,
    a_law_plan_rows := _,
    d_law_plan_rows := _,
    D_law_plan_rows := ⟨F_law_plan_rows, PySem.W.mg_of X G a_law_plan_rows, b_law_plan_rows, ⟨_, _, _, _, _, _, rfl⟩⟩,
    a_law_plan_takes := _,
    d_law_plan_takes := _,
    D_law_plan_takes := ⟨F_law_plan_takes, PySem.W.mg_of X G a_law_plan_takes, b_law_plan_takes, ⟨_, _, _, _, _, _, rfl⟩⟩,
    a_law_plan_papers := _,
    d_law_plan_papers := _,
    D_law_plan_papers := ⟨F_law_plan_papers, PySem.W.mg_of X G a_law_plan_papers, b_law_plan_papers, ⟨_, _, _, _, _, _, rfl⟩⟩,
    a_law_plan_tries := _,
    d_law_plan_tries := _,
    D_law_plan_tries := ⟨F_law_plan_tries, PySem.W.mg_of X G a_law_plan_tries, b_law_plan_tries, ⟨_, _, _, _, _, _, rfl⟩⟩,
    a_law_plan_number := _,
    d_law_plan_number := _,
    D_law_plan_number := ⟨F_law_plan_number, PySem.W.mg_of X G a_law_plan_number, b_law_plan_number, ⟨_, _, _, _, _, _, rfl⟩⟩,
    a_law_plan_bad := _,
    d_law_plan_bad := _,
    D_law_plan_bad := ⟨F_law_plan_bad, PySem.W.mg_of X G a_law_plan_bad, b_law_plan_bad, ⟨_, _, _, _, _, _, rfl⟩⟩,
    a_law_plan_spoilt := _,
    d_law_plan_spoilt := _,
    D_law_plan_spoilt := ⟨F_law_plan_spoilt, PySem.W.mg_of X G a_law_plan_spoilt, b_law_plan_spoilt, ⟨_, _, _, _, _, _, rfl⟩⟩,
    a_law_plan_bent := _,
    d_law_plan_bent := _,
    D_law_plan_bent := ⟨F_law_plan_bent, PySem.W.mg_of X G a_law_plan_bent, b_law_plan_bent, ⟨_, _, _, _, _, _, rfl⟩⟩,
    a_law_plan_asked := _,
    d_law_plan_asked := _,
    D_law_plan_asked := ⟨F_law_plan_asked, PySem.W.mg_of X G a_law_plan_asked, b_law_plan_asked, ⟨_, _, _, _, _, _, rfl⟩⟩,
    a_law := _,
    d_law := _,
    D_law := ⟨F_law, PySem.W.mg_of X G a_law, b_law, ⟨_, _, _, _, _, _, rfl⟩⟩,
    n_all := PySem.W.mg_none_of X G n_all,
    n_bool := PySem.W.mg_none_of X G n_bool,
    n_enumerate := PySem.W.mg_none_of X G n_enumerate,
    n_int := PySem.W.mg_none_of X G n_int,
    n_isinstance := PySem.W.mg_none_of X G n_isinstance,
    n_len := PySem.W.mg_none_of X G n_len,
    n_list := PySem.W.mg_none_of X G n_list,
    n_max := PySem.W.mg_none_of X G n_max,
    n_min := PySem.W.mg_none_of X G n_min,
    n_range := PySem.W.mg_none_of X G n_range,
    n_sorted := PySem.W.mg_none_of X G n_sorted,
    n_str := PySem.W.mg_none_of X G n_str,
    n_sum := PySem.W.mg_none_of X G n_sum,
    n_tuple := PySem.W.mg_none_of X G n_tuple,
    n_zip := PySem.W.mg_none_of X G n_zip })⟩
end Vf
open PySem PySem.W PyProof.Rows
set_option maxHeartbeats 0 in
theorem PySem.Challenge.cw_hushedpages_k72_plans_judged_holds : PySem.Challenge.rw_hushedpages_k72_plans_judged.Holds := by
  w_on; o_law; k_head; (case hw => w_witness2)
  k_fill
  refine L2.walk_of (l := PySem.Challenge.rw_hushedpages_k72_plans_judged) (n := 63) (k := 6) (x := "_law_script") (CX := fun _ => L2.CX0) (sp := fun w => Vf.spLaw _) rfl (by decide) rfl ⟨rfl, by decide, by decide⟩ (fun w h Y => PySem.W.kIn_of Y) ?F (fun _ _ a ns hl _ hS => ⟨a, ns, rfl, hS, hl, fun _ => rfl⟩) (fun _ _ _ _ _ h => h)
  case F =>
    intro w mg fa h KX G hmg
    refine' Vf.all_mk KX G hmg ?a_is_safe ?l_is_safe ?c_is_safe ?k_is_safe ?a_finest ?l_finest ?c_finest ?k_finest ?a_reasons_of ?l_reasons_of ?c_reasons_of ?k_reasons_of ?a_ways_in ?l_ways_in ?c_ways_in ?k_ways_in ?a_class_of ?l_class_of ?c_class_of ?k_class_of ?a_classes_at ?l_classes_at ?c_classes_at ?k_classes_at ?a_published ?l_published ?c_published ?k_published ?a_lacks_of ?l_lacks_of ?c_lacks_of ?k_lacks_of ?a_least_reason ?l_least_reason ?c_least_reason ?k_least_reason ?a_judge_plan ?l_judge_plan ?c_judge_plan ?k_judge_plan ?a_is_honest ?l_is_honest ?c_is_honest ?k_is_honest ?a_is_right ?l_is_right ?c_is_right ?k_is_right ?a_law_begin ?l_law_begin ?c_law_begin ?k_law_begin ?a_law_draw ?l_law_draw ?c_law_draw ?k_law_draw ?a_law_pick ?l_law_pick ?c_law_pick ?k_law_pick ?a_law_rare ?l_law_rare ?c_law_rare ?k_law_rare ?a_law_ways ?l_law_ways ?c_law_ways ?k_law_ways ?a_law_unsafe ?l_law_unsafe ?c_law_unsafe ?k_law_unsafe ?a_law_classes ?l_law_classes ?c_law_classes ?k_law_classes ?a_law_finest ?l_law_finest ?c_law_finest ?k_law_finest ?a_law_published ?l_law_published ?c_law_published ?k_law_published ?a_law_reasons ?l_law_reasons ?c_law_reasons ?k_law_reasons ?a_law_exact ?l_law_exact ?c_law_exact ?k_law_exact ?a_law_plan_fillings ?l_law_plan_fillings ?c_law_plan_fillings ?k_law_plan_fillings ?a_law_plan_chain ?l_law_plan_chain ?c_law_plan_chain ?k_law_plan_chain ?a_law_plan_counts ?l_law_plan_counts ?c_law_plan_counts ?k_law_plan_counts ?a_law_plan_groups ?l_law_plan_groups ?c_law_plan_groups ?k_law_plan_groups ?a_law_plan_least ?l_law_plan_least ?c_law_plan_least ?k_law_plan_least ?a_law_plan_watch ?l_law_plan_watch ?c_law_plan_watch ?k_law_plan_watch ?a_law_plan_scene ?l_law_plan_scene ?c_law_plan_scene ?k_law_plan_scene ?a_law_plan_value ?l_law_plan_value ?c_law_plan_value ?k_law_plan_value ?a_law_plan_views ?l_law_plan_views ?c_law_plan_views ?k_law_plan_views ?a_law_plan_rows ?l_law_plan_rows ?c_law_plan_rows ?k_law_plan_rows ?a_law_plan_takes ?l_law_plan_takes ?c_law_plan_takes ?k_law_plan_takes ?a_law_plan_papers ?l_law_plan_papers ?c_law_plan_papers ?k_law_plan_papers ?a_law_plan_tries ?l_law_plan_tries ?c_law_plan_tries ?k_law_plan_tries ?a_law_plan_number ?l_law_plan_number ?c_law_plan_number ?k_law_plan_number ?a_law_plan_bad ?l_law_plan_bad ?c_law_plan_bad ?k_law_plan_bad ?a_law_plan_spoilt ?l_law_plan_spoilt ?c_law_plan_spoilt ?k_law_plan_spoilt ?a_law_plan_bent ?l_law_plan_bent ?c_law_plan_bent ?k_law_plan_bent ?a_law_plan_asked ?l_law_plan_asked ?c_law_plan_asked ?k_law_plan_asked ?a_law ?l_law ?c_law ?k_law ?n_all ?n_bool ?n_enumerate ?n_int ?n_isinstance ?n_len ?n_list ?n_max ?n_min ?n_range ?n_sorted ?n_str ?n_sum ?n_tuple ?n_zip
    (case a_is_safe => k_is)
    (case l_is_safe => k_is)
    (case c_is_safe => k_is)
    (case k_is_safe => k_is)
    (case a_finest => k_is)
    (case l_finest => k_is)
    (case c_finest => k_is)
    (case k_finest => k_is)
    (case a_reasons_of => k_is)
    (case l_reasons_of => k_is)
    (case c_reasons_of => k_is)
    (case k_reasons_of => k_is)
    (case a_ways_in => k_is)
    (case l_ways_in => k_is)
    (case c_ways_in => k_is)
    (case k_ways_in => k_is)
    (case a_class_of => k_is)
    (case l_class_of => k_is)
    (case c_class_of => k_is)
    (case k_class_of => k_is)
    (case a_classes_at => k_is)
    (case l_classes_at => k_is)
    (case c_classes_at => k_is)
    (case k_classes_at => k_is)
    (case a_published => k_is)
    (case l_published => k_is)
    (case c_published => k_is)
    (case k_published => k_is)
    (case a_lacks_of => k_is)
    (case l_lacks_of => k_is)
    (case c_lacks_of => k_is)
    (case k_lacks_of => k_is)
    (case a_least_reason => k_is)
    (case l_least_reason => k_is)
    (case c_least_reason => k_is)
    (case k_least_reason => k_is)
    (case a_judge_plan => k_is)
    (case l_judge_plan => k_is)
    (case c_judge_plan => k_is)
    (case k_judge_plan => k_is)
    (case a_is_honest => k_is)
    (case l_is_honest => k_is)
    (case c_is_honest => k_is)
    (case k_is_honest => k_is)
    (case a_is_right => k_is)
    (case l_is_right => k_is)
    (case c_is_right => k_is)
    (case k_is_right => k_is)
    (case a_law_begin => k_is)
    (case l_law_begin => k_is)
    (case c_law_begin => k_is)
    (case k_law_begin => k_is)
    (case a_law_draw => k_is)
    (case l_law_draw => k_is)
    (case c_law_draw => k_is)
    (case k_law_draw => k_is)
    (case a_law_pick => k_is)
    (case l_law_pick => k_is)
    (case c_law_pick => k_is)
    (case k_law_pick => k_is)
    (case a_law_rare => k_is)
    (case l_law_rare => k_is)
    (case c_law_rare => k_is)
    (case k_law_rare => k_is)
    (case a_law_ways => k_is)
    (case l_law_ways => k_is)
    (case c_law_ways => k_is)
    (case k_law_ways => k_is)
    (case a_law_unsafe => k_is)
    (case l_law_unsafe => k_is)
    (case c_law_unsafe => k_is)
    (case k_law_unsafe => k_is)
    (case a_law_classes => k_is)
    (case l_law_classes => k_is)
    (case c_law_classes => k_is)
    (case k_law_classes => k_is)
    (case a_law_finest => k_is)
    (case l_law_finest => k_is)
    (case c_law_finest => k_is)
    (case k_law_finest => k_is)
    (case a_law_published => k_is)
    (case l_law_published => k_is)
    (case c_law_published => k_is)
    (case k_law_published => k_is)
    (case a_law_reasons => k_is)
    (case l_law_reasons => k_is)
    (case c_law_reasons => k_is)
    (case k_law_reasons => k_is)
    (case a_law_exact => k_is)
    (case l_law_exact => k_is)
    (case c_law_exact => k_is)
    (case k_law_exact => k_is)
    (case a_law_plan_fillings => k_is)
    (case l_law_plan_fillings => k_is)
    (case c_law_plan_fillings => k_is)
    (case k_law_plan_fillings => k_is)
    (case a_law_plan_chain => k_is)
    (case l_law_plan_chain => k_is)
    (case c_law_plan_chain => k_is)
    (case k_law_plan_chain => k_is)
    (case a_law_plan_counts => k_is)
    (case l_law_plan_counts => k_is)
    (case c_law_plan_counts => k_is)
    (case k_law_plan_counts => k_is)
    (case a_law_plan_groups => k_is)
    (case l_law_plan_groups => k_is)
    (case c_law_plan_groups => k_is)
    (case k_law_plan_groups => k_is)
    (case a_law_plan_least => k_is)
    (case l_law_plan_least => k_is)
    (case c_law_plan_least => k_is)
    (case k_law_plan_least => k_is)
    (case a_law_plan_watch => k_is)
    (case l_law_plan_watch => k_is)
    (case c_law_plan_watch => k_is)
    (case k_law_plan_watch => k_is)
    (case a_law_plan_scene => k_is)
    (case l_law_plan_scene => k_is)
    (case c_law_plan_scene => k_is)
    (case k_law_plan_scene => k_is)
    (case a_law_plan_value => k_is)
    (case l_law_plan_value => k_is)
    (case c_law_plan_value => k_is)
    (case k_law_plan_value => k_is)
    (case a_law_plan_views => k_is)
    (case l_law_plan_views => k_is)
    (case c_law_plan_views => k_is)
    (case k_law_plan_views => k_is)
    (case a_law_plan_rows => k_is)
    (case l_law_plan_rows => k_is)
    (case c_law_plan_rows => k_is)
    (case k_law_plan_rows => k_is)
    (case a_law_plan_takes => k_is)
    (case l_law_plan_takes => k_is)
    (case c_law_plan_takes => k_is)
    (case k_law_plan_takes => k_is)
    (case a_law_plan_papers => k_is)
    (case l_law_plan_papers => k_is)
    (case c_law_plan_papers => k_is)
    (case k_law_plan_papers => k_is)
    (case a_law_plan_tries => k_is)
    (case l_law_plan_tries => k_is)
    (case c_law_plan_tries => k_is)
    (case k_law_plan_tries => k_is)
    (case a_law_plan_number => k_is)
    (case l_law_plan_number => k_is)
    (case c_law_plan_number => k_is)
    (case k_law_plan_number => k_is)
    (case a_law_plan_bad => k_is)
    (case l_law_plan_bad => k_is)
    (case c_law_plan_bad => k_is)
    (case k_law_plan_bad => k_is)
    (case a_law_plan_spoilt => k_is)
    (case l_law_plan_spoilt => k_is)
    (case c_law_plan_spoilt => k_is)
    (case k_law_plan_spoilt => k_is)
    (case a_law_plan_bent => k_is)
    (case l_law_plan_bent => k_is)
    (case c_law_plan_bent => k_is)
    (case k_law_plan_bent => k_is)
    (case a_law_plan_asked => k_is)
    (case l_law_plan_asked => k_is)
    (case c_law_plan_asked => k_is)
    (case k_law_plan_asked => k_is)
    (case a_law => k_is)
    (case l_law => k_is)
    (case c_law => k_is)
    (case k_law => k_is)
    (case n_all => k_is)
    (case n_bool => k_is)
    (case n_enumerate => k_is)
    (case n_int => k_is)
    (case n_isinstance => k_is)
    (case n_len => k_is)
    (case n_list => k_is)
    (case n_max => k_is)
    (case n_min => k_is)
    (case n_range => k_is)
    (case n_sorted => k_is)
    (case n_str => k_is)
    (case n_sum => k_is)
    (case n_tuple => k_is)
    (case n_zip => k_is)
