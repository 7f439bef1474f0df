import PyProof.Rows.All
import Wide.All
import OpenK.AllK
import Wide.FinOn
import HandS.ForMost
import HandS.IsInst
import HandS.Conv
import HandS.Evl
import PyProof.StrBlock2
import HandS.ExcInit
import HandS.ExcIs
import HandS.ExcField
import HandS.Wide
import HandS.Style
import HandS.Replace
import HandS.SetBool
import HandS.Strs
import HandS.Walk
import HandS.Deep
import HandS.TupSets
import PyProof.ListStr
import HandS.TupLe
import KE.GoesEnum
import HandS.TupAny
import PySem.Challenge.RW_hushedpages_k64_whole_only_cover
set_option Elab.async false
set_option linter.all false
set_option maxRecDepth 100000
set_option maxHeartbeats 4000000
namespace Vf
open PySem PySem.Spec PyProof.Rows L2
def topS (i : Nat) : Stmt := PySem.Challenge.pw_hushedpages_k64_whole_only_cover.main.body.getD i (.Pass ⟨0, 0, 0, 0⟩)
abbrev s_draw : Stmt := topS 3
theorem sc_draw : FnScope ["step", "look", "name", "page", "row"] ["step", "look"] (defScope s_draw) := ⟨rfl, rfl, rfl, by decide +kernel, rfl, by decide +kernel, by decide +kernel⟩
abbrev s_whole : Stmt := topS 4
theorem sc_whole : FnScope ["row"] ["row"] (defScope s_whole) := ⟨rfl, rfl, rfl, by decide +kernel, rfl, by decide +kernel, by decide +kernel⟩
abbrev s_whole_page : Stmt := topS 5
theorem sc_whole_page : FnScope ["page", "row"] ["page"] (defScope s_whole_page) := ⟨rfl, rfl, rfl, by decide +kernel, rfl, by decide +kernel, by decide +kernel⟩
abbrev s_has_cover : Stmt := topS 6
theorem sc_has_cover : FnScope ["page", "row"] ["page"] (defScope s_has_cover) := ⟨rfl, rfl, rfl, by decide +kernel, rfl, by decide +kernel, by decide +kernel⟩
abbrev s_wide_row : Stmt := topS 7
theorem sc_wide_row : FnScope ["row", "distance", "at", "sign"] ["row", "distance"] (defScope s_wide_row) := ⟨rfl, rfl, rfl, by decide +kernel, rfl, by decide +kernel, by decide +kernel⟩
abbrev s_even_row : Stmt := topS 8
theorem sc_even_row : FnScope ["row", "measure", "cells", "run", "sign"] ["row", "measure"] (defScope s_even_row) := ⟨rfl, rfl, rfl, by decide +kernel, rfl, by decide +kernel, by decide +kernel⟩
abbrev s_blocks_page : Stmt := topS 9
theorem sc_blocks_page : FnScope ["page", "rows", "run", "row"] ["page"] (defScope s_blocks_page) := ⟨rfl, rfl, rfl, by decide +kernel, rfl, by decide +kernel, by decide +kernel⟩
abbrev s_block : Stmt := topS 10
theorem sc_block : FnScope ["rows", "row"] ["rows"] (defScope s_block) := ⟨rfl, rfl, rfl, by decide +kernel, rfl, by decide +kernel, by decide +kernel⟩
abbrev s_below : Stmt := topS 11
theorem sc_below : FnScope ["look", "pages", "begun", "page", "rows", "row"] ["look"] (defScope s_below) := ⟨rfl, rfl, rfl, by decide +kernel, rfl, by decide +kernel, by decide +kernel⟩
abbrev s_law_begin : Stmt := topS 13
theorem sc_law_begin : FnScope ["_law_script"] ["_law_script"] (defScope s_law_begin) := ⟨rfl, rfl, rfl, by decide +kernel, rfl, by decide +kernel, by decide +kernel⟩
abbrev s_law_draw : Stmt := topS 14
theorem sc_law_draw : FnScope ["_law_d", "_law_many", "_law_cell", "_law_found"] ["_law_d", "_law_many"] (defScope s_law_draw) := ⟨rfl, rfl, rfl, by decide +kernel, rfl, by decide +kernel, by decide +kernel⟩
abbrev s_law_pick : Stmt := topS 15
theorem sc_law_pick : FnScope ["_law_d", "_law_row"] ["_law_d", "_law_row"] (defScope s_law_pick) := ⟨rfl, rfl, rfl, by decide +kernel, rfl, by decide +kernel, by decide +kernel⟩
abbrev s_law_rare : Stmt := topS 16
theorem sc_law_rare : FnScope ["_law_d", "_law_many"] ["_law_d", "_law_many"] (defScope s_law_rare) := ⟨rfl, rfl, rfl, by decide +kernel, rfl, by decide +kernel, by decide +kernel⟩
abbrev s_law_exact : Stmt := topS 17
theorem sc_law_exact : FnScope ["_law_told", "_law_due", "_law_k"] ["_law_told", "_law_due"] (defScope s_law_exact) := ⟨rfl, rfl, rfl, by decide +kernel, rfl, by decide +kernel, by decide +kernel⟩
abbrev s_law_own_signs : Stmt := topS 18
theorem sc_law_own_signs : FnScope [] [] (defScope s_law_own_signs) := ⟨rfl, rfl, rfl, by decide +kernel, rfl, by decide +kernel, by decide +kernel⟩
abbrev s_law_own_row : Stmt := topS 19
theorem sc_law_own_row : FnScope ["_law_d", "_law_wide", "_law_kind", "_law_cells", "_law_k"] ["_law_d", "_law_wide"] (defScope s_law_own_row) := ⟨rfl, rfl, rfl, by decide +kernel, rfl, by decide +kernel, by decide +kernel⟩
abbrev s_law_own_look : Stmt := topS 20
theorem sc_law_own_look : FnScope ["_law_d", "_law_many", "_law_high", "_law_wide", "_law_kind", "_law_p", "_law_r"] ["_law_d"] (defScope s_law_own_look) := ⟨rfl, rfl, rfl, by decide +kernel, rfl, by decide +kernel, by decide +kernel⟩
abbrev s_law_only_covers : Stmt := topS 21
theorem sc_law_only_covers : FnScope ["_law_look", "_law_told", "_law_p", "_law_r", "_law_x"] ["_law_look", "_law_told"] (defScope s_law_only_covers) := ⟨rfl, rfl, rfl, by decide +kernel, rfl, by decide +kernel, by decide +kernel⟩
abbrev s_law_turned : Stmt := topS 22
theorem sc_law_turned : FnScope ["_law_look", "_law_way", "_law_table", "_law_pages", "_law_page", "_law_rows", "_law_row", "_law_cells", "_law_sign"] ["_law_look", "_law_way", "_law_table"] (defScope s_law_turned) := ⟨rfl, rfl, rfl, by decide +kernel, rfl, by decide +kernel, by decide +kernel⟩
abbrev s_law_same_turned : Stmt := topS 23
theorem sc_law_same_turned : FnScope ["_law_d", "_law_look", "_law_steps", "_law_signs", "_law_shift", "_law_table", "_law_k", "_law_step", "_law_told"] ["_law_d", "_law_look", "_law_steps"] (defScope s_law_same_turned) := ⟨rfl, rfl, rfl, by decide +kernel, rfl, by decide +kernel, by decide +kernel⟩
abbrev s_law_swallows : Stmt := topS 24
theorem sc_law_swallows : FnScope ["_law_look", "_law_wide", "_law_even", "_law_finer", "_law_table", "_law_step", "_law_fine", "_law_told", "_law_one"] ["_law_look", "_law_wide", "_law_even"] (defScope s_law_swallows) := ⟨rfl, rfl, rfl, by decide +kernel, rfl, by decide +kernel, by decide +kernel⟩
abbrev s_law_widths_add : Stmt := topS 25
theorem sc_law_widths_add : FnScope ["_law_d", "_law_look", "_law_m", "_law_n", "_law_told"] ["_law_d", "_law_look"] (defScope s_law_widths_add) := ⟨rfl, rfl, rfl, by decide +kernel, rfl, by decide +kernel, by decide +kernel⟩
abbrev s_law_keeps : Stmt := topS 26
theorem sc_law_keeps : FnScope ["_law_d", "_law_look", "_law_steps", "_law_n", "_law_m", "_law_kept", "_law_step"] ["_law_d", "_law_look", "_law_steps"] (defScope s_law_keeps) := ⟨rfl, rfl, rfl, by decide +kernel, rfl, by decide +kernel, by decide +kernel⟩
abbrev s_law_row_parts : Stmt := topS 27
theorem sc_law_row_parts : FnScope ["_law_row", "_law_n", "_law_near", "_law_whole", "_law_x", "_law_due"] ["_law_row", "_law_n"] (defScope s_law_row_parts) := ⟨rfl, rfl, rfl, by decide +kernel, rfl, by decide +kernel, by decide +kernel⟩
abbrev s_law_page_parts : Stmt := topS 28
theorem sc_law_page_parts : FnScope ["_law_page", "_law_whole", "_law_hit", "_law_first", "_law_blank", "_law_due", "_law_row", "_law_r"] ["_law_page"] (defScope s_law_page_parts) := ⟨rfl, rfl, rfl, by decide +kernel, rfl, by decide +kernel, by decide +kernel⟩
abbrev s_law_by_parts : Stmt := topS 29
theorem sc_law_by_parts : FnScope ["_law_look", "_law_steps", "_law_step", "_law_told", "_law_found", "_law_page", "_law_one", "_law_rows", "_law_whole", "_law_k", "_law_met", "_law_rest", "_law_row"] ["_law_look", "_law_steps"] (defScope s_law_by_parts) := ⟨rfl, rfl, rfl, by decide +kernel, rfl, by decide +kernel, by decide +kernel⟩
abbrev s_law : Stmt := topS 30
theorem sc_law : FnScope ["_law_script", "_law_d", "_law_look", "_law_wide", "_law_even", "_law_steps", "_law_page", "_law_row"] ["_law_script"] (defScope s_law) := ⟨rfl, rfl, rfl, by decide +kernel, rfl, by decide +kernel, by decide +kernel⟩
structure DefAt (K : PySem.W.Frag) (mg : Str → Option Value) (x : Str) (st : Stmt) (ps : List Str) (f : Addr) (fd : FuncData) : Prop where
  F : Fun K x x st f fd
  G : mg x = some (.ref f)
  B : Binds K fd ps []
  E : ∃ kV doc pm an cdv ct, fd = PySem.W.fnOf x x (defArgs st) (defBody st) (defScope st) .none kV doc pm an cdv ct
structure Txt (K : PySem.W.Frag) (mg : Str → Option Value) where
  a_draw : Addr
  d_draw : FuncData
  D_draw : DefAt K mg "draw" s_draw ["step", "look"] a_draw d_draw
  a_whole : Addr
  d_whole : FuncData
  D_whole : DefAt K mg "_whole" s_whole ["row"] a_whole d_whole
  a_whole_page : Addr
  d_whole_page : FuncData
  D_whole_page : DefAt K mg "_whole_page" s_whole_page ["page"] a_whole_page d_whole_page
  a_has_cover : Addr
  d_has_cover : FuncData
  D_has_cover : DefAt K mg "_has_cover" s_has_cover ["page"] a_has_cover d_has_cover
  a_wide_row : Addr
  d_wide_row : FuncData
  D_wide_row : DefAt K mg "_wide_row" s_wide_row ["row", "distance"] a_wide_row d_wide_row
  a_even_row : Addr
  d_even_row : FuncData
  D_even_row : DefAt K mg "_even_row" s_even_row ["row", "measure"] a_even_row d_even_row
  a_blocks_page : Addr
  d_blocks_page : FuncData
  D_blocks_page : DefAt K mg "_blocks_page" s_blocks_page ["page"] a_blocks_page d_blocks_page
  a_block : Addr
  d_block : FuncData
  D_block : DefAt K mg "_block" s_block ["rows"] a_block d_block
  a_below : Addr
  d_below : FuncData
  D_below : DefAt K mg "_below" s_below ["look"] a_below d_below
  a_law_begin : Addr
  d_law_begin : FuncData
  D_law_begin : DefAt K mg "_law_begin" s_law_begin ["_law_script"] a_law_begin d_law_begin
  a_law_draw : Addr
  d_law_draw : FuncData
  D_law_draw : DefAt K mg "_law_draw" s_law_draw ["_law_d", "_law_many"] a_law_draw d_law_draw
  a_law_pick : Addr
  d_law_pick : FuncData
  D_law_pick : DefAt K mg "_law_pick" s_law_pick ["_law_d", "_law_row"] a_law_pick d_law_pick
  a_law_rare : Addr
  d_law_rare : FuncData
  D_law_rare : DefAt K mg "_law_rare" s_law_rare ["_law_d", "_law_many"] a_law_rare d_law_rare
  a_law_exact : Addr
  d_law_exact : FuncData
  D_law_exact : DefAt K mg "_law_exact" s_law_exact ["_law_told", "_law_due"] a_law_exact d_law_exact
  a_law_own_signs : Addr
  d_law_own_signs : FuncData
  D_law_own_signs : DefAt K mg "_law_own_signs" s_law_own_signs [] a_law_own_signs d_law_own_signs
  a_law_own_row : Addr
  d_law_own_row : FuncData
  D_law_own_row : DefAt K mg "_law_own_row" s_law_own_row ["_law_d", "_law_wide"] a_law_own_row d_law_own_row
  a_law_own_look : Addr
  d_law_own_look : FuncData
  D_law_own_look : DefAt K mg "_law_own_look" s_law_own_look ["_law_d"] a_law_own_look d_law_own_look
  a_law_only_covers : Addr
  d_law_only_covers : FuncData
  D_law_only_covers : DefAt K mg "_law_only_covers" s_law_only_covers ["_law_look", "_law_told"] a_law_only_covers d_law_only_covers
  a_law_turned : Addr
  d_law_turned : FuncData
  D_law_turned : DefAt K mg "_law_turned" s_law_turned ["_law_look", "_law_way", "_law_table"] a_law_turned d_law_turned
  a_law_same_turned : Addr
  d_law_same_turned : FuncData
  D_law_same_turned : DefAt K mg "_law_same_turned" s_law_same_turned ["_law_d", "_law_look", "_law_steps"] a_law_same_turned d_law_same_turned
  a_law_swallows : Addr
  d_law_swallows : FuncData
  D_law_swallows : DefAt K mg "_law_swallows" s_law_swallows ["_law_look", "_law_wide", "_law_even"] a_law_swallows d_law_swallows
  a_law_widths_add : Addr
  d_law_widths_add : FuncData
  D_law_widths_add : DefAt K mg "_law_widths_add" s_law_widths_add ["_law_d", "_law_look"] a_law_widths_add d_law_widths_add
  a_law_keeps : Addr
  d_law_keeps : FuncData
  D_law_keeps : DefAt K mg "_law_keeps" s_law_keeps ["_law_d", "_law_look", "_law_steps"] a_law_keeps d_law_keeps
  a_law_row_parts : Addr
  d_law_row_parts : FuncData
  D_law_row_parts : DefAt K mg "_law_row_parts" s_law_row_parts ["_law_row", "_law_n"] a_law_row_parts d_law_row_parts
  a_law_page_parts : Addr
  d_law_page_parts : FuncData
  D_law_page_parts : DefAt K mg "_law_page_parts" s_law_page_parts ["_law_page"] a_law_page_parts d_law_page_parts
  a_law_by_parts : Addr
  d_law_by_parts : FuncData
  D_law_by_parts : DefAt K mg "_law_by_parts" s_law_by_parts ["_law_look", "_law_steps"] a_law_by_parts d_law_by_parts
  a_law : Addr
  d_law : FuncData
  D_law : DefAt K mg "law" s_law ["_law_script"] a_law d_law
  t_COVER : Tok
  m_COVER : mg "COVER" = some (.str "#" t_COVER)
  t_BLANK : Tok
  m_BLANK : mg "BLANK" = some (.str " " t_BLANK)
  n_any : mg "any" = none
  n_bool : mg "bool" = none
  n_enumerate : mg "enumerate" = none
  n_int : mg "int" = none
  n_isinstance : mg "isinstance" = none
  n_len : mg "len" = none
  n_list : mg "list" = none
  n_max : mg "max" = none
  n_min : mg "min" = none
  n_range : mg "range" = none
  n_str : mg "str" = none
  n_tuple : mg "tuple" = none
/-! ### the dice -/
/-- at d the dice, at l the script's copy -/
structure DI (d l : Addr) (H : Hp) : Prop where
  ne : l ≠ d
  sc : ∃ ns : List Int, H l = some (.lst (ns.map V.int))
  st : ∃ i b s c : Int, 0 ≤ i ∧ H d = some (.lst [.ref l, .int i, .int b, .int s, .int c])
/-- all but the dice stands -/
def Kp (d : Addr) (H H' : Hp) : Prop := ∀ b o, b ≠ d → H b = some o → H' b = some o
theorem Kp.refl (d : Addr) (H : Hp) : Kp d H H := fun _ _ _ h => h
theorem Kp.trans {d : Addr} {H H1 H2 : Hp} (a : Kp d H H1) (b : Kp d H1 H2) : Kp d H H2 := fun x o n h => b x o n (a x o n h)
theorem Kp.upd {d : Addr} {H H' : Hp} {o : HO} (a : Kp d H H') : Kp d H (upd H' d o) := fun x u n h => by
  rw [upd_ne n]; exact a x u n h
theorem Kp.new {d p : Addr} {H H' : Hp} {o : HO} (a : Kp d H H') (hp : H' p = none) : Kp d H (L2.upd H' p o) := fun x u n h => by
  have h2 := a x u n h
  rw [upd_ne (ne_of_none h2 hp)]; exact h2
theorem Kp.mut {d p : Addr} {H H' : Hp} {o : HO} (a : Kp d H H') (hp : H p = none) : Kp d H (L2.upd H' p o) := fun x u n h => by
  rw [upd_ne (ne_of_none h hp)]; exact a x u n h
theorem Kp.sq {K : PySem.W.Frag} {d a : Addr} {H H' : Hp} {xs : List V} (k : Kp d H H') (n : a ≠ d) (h : SqL K H a xs) : SqL K H' a xs := by
  rcases h with (h | ⟨o, h⟩) | h
  · exact .inl (.inl (k _ _ n h))
  · exact .inl (.inr ⟨o, k _ _ n h⟩)
  · exact .inr h
theorem DI.keep {d l : Addr} {H H' : Hp} (h : DI d l H) (e : ∀ b o, H b = some o → H' b = some o) : DI d l H' := by
  obtain ⟨n, ⟨ns, h1⟩, i, b, s, c, h0, h2⟩ := h
  exact ⟨n, ⟨ns, e _ _ h1⟩, i, b, s, c, h0, e _ _ h2⟩
theorem DI.at {d l p : Addr} {H : Hp} {o : HO} (h : DI d l H) (n1 : p ≠ d) (n2 : p ≠ l) : DI d l (upd H p o) := by
  obtain ⟨n, ⟨ns, h1⟩, i, b, s, c, h0, h2⟩ := h
  exact ⟨n, ⟨ns, by rw [upd_ne n2.symm]; exact h1⟩, i, b, s, c, h0, by rw [upd_ne n1.symm]; exact h2⟩
theorem DI.new {d l p : Addr} {H : Hp} {o : HO} (h : DI d l H) (hp : H p = none) : DI d l (upd H p o) :=
  h.keep fun b u e => by rw [upd_ne (ne_of_none e hp)]; exact e
theorem DI.nd {d l p : Addr} {H : Hp} (h : DI d l H) (hp : H p = none) : p ≠ d ∧ p ≠ l := by
  obtain ⟨n, ⟨ns, h1⟩, i, b, s, c, h0, h2⟩ := h
  exact ⟨fun e => (by rw [e, h2] at hp; cases hp), fun e => (by rw [e, h1] at hp; cases hp)⟩
theorem DI.set {d l : Addr} {H : Hp} {i b s c : Int} (h : DI d l H) (h0 : 0 ≤ i) : DI d l (upd H d (.lst [.ref l, .int i, .int b, .int s, .int c])) := by
  obtain ⟨n, ⟨ns, h1⟩, _⟩ := h
  exact ⟨n, ⟨ns, by rw [upd_ne n]; exact h1⟩, i, b, s, c, h0, upd_same⟩
section
variable {P : Program} {w : World} {K : PySem.W.Frag} {mg : Str → Option Value} {base : Heap}
/-! ### begin -/
def spBegin (K : PySem.W.Frag) : Sp := fun vs H Q _ => ∃ (a : Addr) (ns : List Int), vs = [.ref a] ∧ SqL K H a (ns.map V.int) ∧ ns.length ≤ 63 ∧
  ∀ H' d l, Same H H' → DI d l H' → Q (.ref d) H'
theorem ok_begin (T : Txt K mg) : FnOk P w K mg base CX0 1 T.a_law_begin T.d_law_begin ["_law_script"] (spBegin K) := by
  refine T.D_law_begin.F.ok sc_law_begin (fun vs H Q E h => ?_) (fun cdv A outer s H vs Q E hr h => ?_)
  · obtain ⟨a, ns, rfl, _⟩ := h
    rfl
  · obtain ⟨a, ns, rfl, hS, hl, q⟩ := h
    refine ⟨_, (pss_one (ps_ret (pe_lst (pa_cons (pe_callTy call_list_of (by rfl) T.n_list (by decide +kernel) (pa_cons (pv 0) pa_nil)) (pa_cons pe_int (pa_cons pe_int (pa_cons pe_int (pa_cons pe_int pa_nil)))))))), ?_⟩
    refine ⟨_, rfl, a, _, rfl, .inl hS, fun l nl => ?_⟩
    refine ⟨by show 5 ≤ sizeLine; decide, fun d nd => ?_⟩
    refine q _ d l (fun b o e => ?_) ?_
    · have n1 : b ≠ l := ne_of_none e nl
      have e1 : upd H l (.lst (ns.map V.int)) b = some o := by rw [upd_ne n1]; exact e
      rw [upd_ne (ne_of_none e1 nd)]
      exact e1
    · have e1 : upd H l (.lst (ns.map V.int)) l = some (.lst (ns.map V.int)) := upd_same
      have n1 : l ≠ d := ne_of_none e1 nd
      exact ⟨n1, ⟨ns, by rw [upd_ne n1]; exact e1⟩, 0, 0, 7, 0, by decide, upd_same⟩
/-! ### draw -/
def spDraw : Sp := fun vs H Q _ => ∃ (d l : Addr) (m : Int), vs = [.ref d, .int m] ∧ DI d l H ∧ m ≤ 1000000 ∧
  ∀ H' r, Kp d H H' → DI d l H' → (m < 2 → r = 0) → (2 ≤ m → 0 ≤ r ∧ r < m) → Q (.int r) H'
theorem ok_draw (T : Txt K mg) : FnOk P w K mg base CX0 1 T.a_law_draw T.d_law_draw ["_law_d", "_law_many"] spDraw := by
  refine T.D_law_draw.F.ok sc_law_draw (fun vs H Q E h => ?_) (fun cdv A outer s H vs Q E hr h => ?_)
  · obtain ⟨d, l, m, rfl, _⟩ := h
    rfl
  · obtain ⟨d, l, m, rfl, hD, hm, q⟩ := h
    refine ⟨_, (pss_cons (ps_if (pt_cmpR op_lt (pv 1) pe_int (nomark _)) (pss_one (ps_ret pe_int)) pss_nil)
      (pss_cons (ps_set (i := 2) sc_law_draw.nd rfl (.inl rfl) (pe_op op_add (pe_op op_mul (pe_ix ix_list (pv 0) pe_int (fun _ _ => rfl)) pe_int) pe_int))
      (Evl.pss_cut (ps_if (PW.pt (pw_and (pt_cmpR op_eq (pe_ix ix_list (pv 0) pe_int (fun _ _ => rfl)) pe_int (nomark _)) (pw_and1 (pt_cmpR op_lt (pe_ix ix_list (pv 0) pe_int (fun _ _ => rfl)) (pe_callB call_len_seq (by rfl) T.n_len PySem.boot_len (pa_cons (pe_ix ix_list (pv 0) pe_int (fun _ _ => rfl)) pa_nil)) (nomark _))))) (pss_cons (ps_set (i := 2) sc_law_draw.nd rfl (.inl rfl) (pe_ix ix_list (pe_ix ix_list (pv 0) pe_int (fun _ _ => rfl)) (pe_ix ix_list (pv 0) pe_int (fun _ _ => rfl)) (fun _ _ => rfl)))
      (pss_cons (ps_asg (pe_op op_add (pe_ix ix_list (pv 0) pe_int (fun _ _ => rfl)) pe_int) (pg_sub (pv 0) pe_int set_list))
      (Evl.pss_cut (ps_if (pt_cmpR op_lt (pv 2) pe_int (nomark _)) (pss_one (ps_set (i := 2) sc_law_draw.nd rfl (.inl rfl) (pe_op op_sub pe_int (pe_op op_mul pe_int (pv 2))))) pss_nil)
      (pss_one (ps_if (pt_cmpR op_ge (pv 2) pe_int (nomark _)) (pss_cons (ps_set (i := 2) sc_law_draw.nd rfl (.inl rfl) (pe_op op_and (pv 2) (pe_op op_sub (pe_op op_shl pe_int pe_int) pe_int)))
      (pss_one (ps_asg (pv 2) (pg_sub (pv 0) pe_int set_list)))) pss_nil))))) pss_nil)
      (pss_cons (ps_if (pt_cmpR op_gt (pe_ix ix_list (pv 0) pe_int (fun _ _ => rfl)) pe_int (nomark _)) (pss_cons (ps_set (i := 3) sc_law_draw.nd rfl (.inl rfl) (pe_op op_modN (pe_callTy call_int1 (by rfl) T.n_int (by decide +kernel) (pa_cons (pe_ix ix_list (pv 0) pe_int (fun _ _ => rfl)) pa_nil)) (pv 1)))
      (pss_cons (ps_asg (pe_op op_fdivN (pe_ix ix_list (pv 0) pe_int (fun _ _ => rfl)) (pv 1)) (pg_sub (pv 0) pe_int set_list))
      (pss_one (ps_ret (pv 3))))) pss_nil)
      (pss_cons (ps_asg (pe_op op_add (pe_ix ix_list (pv 0) pe_int (fun _ _ => rfl)) pe_int) (pg_sub (pv 0) pe_int set_list))
      (pss_cons (ps_asg (pe_op op_modN (pe_callTy call_int1 (by rfl) T.n_int (by decide +kernel) (pa_cons (pe_op op_add (pe_op op_add (pe_op op_mul (pe_ix ix_list (pv 0) pe_int (fun _ _ => rfl)) pe_int) (pe_op op_mul (pv 2) pe_int)) (pe_op op_mul (pe_ix ix_list (pv 0) pe_int (fun _ _ => rfl)) pe_int)) pa_nil)) pe_int) (pg_sub (pv 0) pe_int set_list))
      (pss_one (ps_ret (pe_op op_modN (pe_callTy call_int1 (by rfl) T.n_int (by decide +kernel) (pa_cons (pe_op op_modN (pe_callTy call_int1 (by rfl) T.n_int (by decide +kernel) (pa_cons (pe_op op_add (pe_op op_add (pe_op op_mul (pe_ix ix_list (pv 0) pe_int (fun _ _ => rfl)) pe_int) (pe_op op_mul (pe_ix ix_list (pv 0) pe_int (fun _ _ => rfl)) pe_int)) pe_int) pa_nil)) pe_int) pa_nil)) (pv 1)))))))))), ?_⟩
    refine ⟨_, rfl, _, _, rfl, rfl, _, rfl, ite2 (fun e => ?_) (fun e => ?_)⟩
    · have e := of_decide_eq_true e
      exact q H 0 (Kp.refl d H) hD (fun _ => rfl) (fun z => by omega)
    have hm2 : 2 ≤ m := by
      have e2 : ¬ m < 2 := fun z => e (decide_eq_true z)
      omega
    have hmN : m ≠ 0 := by omega
    have hmA : m.natAbs < 1073741824 := by omega
    have fm : ∀ z : Int, 0 ≤ z.fmod m ∧ z.fmod m < m := fun z => ⟨Int.fmod_nonneg_of_pos z (by omega), Int.fmod_lt_of_pos z (by omega)⟩
    obtain ⟨n, ⟨ns, h1⟩, i, b, s5, c, h0, h2⟩ := id hD
    -- cell = d[4] * 977 + 3
    refine ⟨_, rfl, _, _, _, _, rfl, rfl, SqL.of h2, rfl, _, _, rfl, rfl, .inr ⟨by decide, by decide⟩, _, _, rfl, rfl, ?_⟩
    refine ⟨fun σ' H' => ∃ (cell : Int) (x3 : Option V), σ' = [some (.ref d), some (.int m), some (.int cell), x3] ∧ Kp d H H' ∧ DI d l H', ?_, ?_⟩
    · -- the cell
      refine ⟨_, rfl, _, _, _, _, rfl, rfl, SqL.of h2, rfl, rfl, _, rfl, ite2 (fun e1 => ?_) (fun e1 => ?_)⟩
      · refine ⟨_, rfl, _, _, _, _, rfl, rfl, SqL.of h2, rfl, _, rfl, _, _, _, _, rfl, rfl, SqL.of h2, rfl, _, _, rfl, .inl (SqL.of h1), _, _, rfl, rfl, _, rfl, ite2 (fun e2 => ?_) (fun e2 => ?_)⟩
        · have e2 := of_decide_eq_true e2
          rw [List.length_map] at e2
          obtain ⟨j, rfl⟩ : ∃ j : Nat, i = (j : Int) := ⟨i.toNat, by omega⟩
          have hj : j < ns.length := by omega
          have gj : (ns.map V.int)[j]? = some (.int ns[j]) := by
            rw [List.getElem?_map, List.getElem?_eq_getElem hj]; rfl
          refine ⟨_, rfl, _, _, _, _, rfl, rfl, SqL.of h2, rfl, _, rfl, _, _, _, _, rfl, rfl, SqL.of h2, rfl, _, _, _, _, rfl, rfl, SqL.of h1, atI_nat gj, ?_⟩
          -- d[1] = d[1] + 1
          refine ⟨_, rfl, _, _, _, _, rfl, rfl, SqL.of h2, rfl, _, _, rfl, rfl, _, rfl, _, _, _, _, rfl, rfl, h2, rfl, ?_⟩
          have D1 := hD.set (i := (j : Int) + 1) (b := b) (s := s5) (c := c) (by omega)
          have K1 : Kp d H (upd H d (.lst [.ref l, .int ((j : Int) + 1), .int b, .int s5, .int c])) := (Kp.refl d H).upd
          refine ⟨fun σ' H' => ∃ (cell : Int) (x3 : Option V), σ' = [some (.ref d), some (.int m), some (.int cell), x3] ∧ H' = upd H d (.lst [.ref l, .int ((j : Int) + 1), .int b, .int s5, .int c]), ?_, ?_⟩
          · refine ⟨_, rfl, _, _, rfl, rfl, _, rfl, ite2 (fun _ => ?_) (fun _ => ?_)⟩
            · exact ⟨_, rfl, _, _, rfl, rfl, .inl ⟨by decide, by decide⟩, _, _, rfl, rfl, _, _, rfl, rfl⟩
            · exact ⟨_, _, rfl, rfl⟩
          · rintro σ' H' ⟨cell, x3, rfl, rfl⟩
            refine ⟨_, rfl, _, _, rfl, rfl, _, rfl, ite2 (fun _ => ?_) (fun _ => ?_)⟩
            · refine ⟨_, rfl, _, _, rfl, rfl, ⟨by decide, by decide, by decide⟩, _, _, rfl, rfl, _, _, rfl, rfl, ?_⟩
              refine ⟨_, rfl, _, rfl, _, _, _, _, rfl, rfl, upd_same, rfl, ?_⟩
              exact ⟨_, _, rfl, K1.upd, D1.set (by omega)⟩
            · exact ⟨_, _, rfl, K1, D1⟩
        · exact ⟨_, _, rfl, Kp.refl d H, hD⟩
      · exact ⟨_, _, rfl, Kp.refl d H, hD⟩
    · rintro σ' H1 ⟨cell, x3, rfl, K1, D1⟩
      obtain ⟨n, ⟨ns, h1⟩, i, b, s5, c, h0, h2⟩ := id D1
      refine ⟨_, rfl, _, _, _, _, rfl, rfl, SqL.of h2, rfl, _, _, rfl, rfl, _, rfl, ite2 (fun e1 => ?_) (fun e1 => ?_)⟩
      · refine ⟨_, rfl, _, _, _, _, rfl, rfl, SqL.of h2, rfl, .inl ⟨_, rfl, _, rfl, _, _, rfl, rfl, hmN, ?_⟩⟩
        refine ⟨_, rfl, _, _, _, _, rfl, rfl, SqL.of h2, rfl, _, rfl, _, _, rfl, rfl, ⟨hmN, hmA⟩, _, rfl, _, _, _, _, rfl, rfl, h2, rfl, ?_⟩
        exact ⟨_, rfl, q _ _ K1.upd (D1.set h0) (fun z => by omega) (fun _ => fm _)⟩
      · refine ⟨_, rfl, _, _, _, _, rfl, rfl, SqL.of h2, rfl, _, _, rfl, rfl, _, rfl, _, _, _, _, rfl, rfl, h2, rfl, ?_⟩
        refine ⟨_, rfl, _, _, _, _, rfl, rfl, SqL.of upd_same, rfl, _, _, rfl, rfl, .inr ⟨by decide, by decide⟩, _, rfl, _, _, rfl, rfl, .inr ⟨by decide, by decide⟩, _, _, rfl, rfl, _, rfl, _, _, _, _, rfl, rfl, SqL.of upd_same, rfl, _, _, rfl, rfl, .inr ⟨by decide, by decide⟩, _, _, rfl, rfl, .inl ⟨_, rfl, _, _, rfl, rfl, (by show (2147483647 : Int) ≠ 0; decide), _, rfl, _, _, _, _, rfl, rfl, upd_same, rfl, ?_⟩⟩
        refine ⟨_, rfl, _, _, _, _, rfl, rfl, SqL.of upd_same, rfl, _, _, rfl, rfl, .inr ⟨by decide, by decide⟩, _, rfl, _, _, _, _, rfl, rfl, SqL.of upd_same, rfl, _, _, rfl, rfl, .inr ⟨by decide, by decide⟩, _, _, rfl, rfl, _, _, rfl, rfl, .inl ⟨_, rfl, _, _, rfl, rfl, (by show (2147483399 : Int) ≠ 0; decide), .inl ⟨_, rfl, _, rfl, _, _, rfl, rfl, hmN, ?_⟩⟩⟩
        exact q _ _ K1.upd.upd ((D1.set h0).set h0) (fun z => by omega) (fun _ => fm _)
end
end Vf

set_option Elab.async false
set_option linter.all false
set_option maxRecDepth 100000
set_option maxHeartbeats 4000000
namespace Vf
open PySem PySem.Spec PyProof.Rows L2 TL
/-! ### the mathematics of tokens -/
def sW : Str := "abcdefghijklmnopqrstuvwxyz0123456789.,:;!?'()+=<>*/"
def sL : Str := "abcdefghijklmnopqrstuvwxyz"
def sB : Str := " \n"
def sOdd : Str := "\"#$&-ABCDEFGHIJKLMNOPQRSTUVWXYZ[\\]^_`|~"
def cW (c : Nat) : Bool := decide (c ∈ sW.cps.toList)
def cL (c : Nat) : Bool := decide (c ∈ sL.cps.toList)
def cB (c : Nat) : Bool := decide (c ∈ sB.cps.toList)
/-- the text of these signs -/
def mkS (zs : List Nat) : Str := ⟨zs.toArray⟩
def sV (zs : List Nat) : V := .str (mkS zs)
theorem mkS_cps (zs : List Nat) : (mkS zs).cps.toList = zs := rfl
theorem mkS_of (z : Str) : mkS z.cps.toList = z := rfl
theorem mkS_len (zs : List Nat) : (mkS zs).length = zs.length := by simp [mkS, Str.length]
theorem len_cps (z : Str) : z.length = z.cps.toList.length := by simp [Str.length]
theorem mkS_app (a b : List Nat) : mkS a ++ mkS b = mkS (a ++ b) := by
  have h : (mkS a ++ mkS b).cps.toList = a ++ b := by rw [Str.cps_append, Array.toList_append]; rfl
  rw [← h]
  rfl
theorem mkS_inj {a b : List Nat} (h : mkS a = mkS b) : a = b := by
  have h2 := congrArg (fun z : Str => z.cps.toList) h
  exact h2
theorem sW_list : sW.cps.toList = [97,98,99,100,101,102,103,104,105,106,107,108,109,110,111,112,113,114,115,116,117,118,119,120,121,122,48,49,50,51,52,53,54,55,56,57,46,44,58,59,33,63,39,40,41,43,61,60,62,42,47] := by decide +kernel
theorem sL_list : sL.cps.toList = [97,98,99,100,101,102,103,104,105,106,107,108,109,110,111,112,113,114,115,116,117,118,119,120,121,122] := by decide +kernel
theorem sB_list : sB.cps.toList = [32, 10] := by decide +kernel
theorem cL_W {c : Nat} (h : cL c = true) : cW c = true := by
  have h1 := of_decide_eq_true h
  refine decide_eq_true ?_
  rw [sL_list] at h1
  rw [sW_list]
  rw [show ([97,98,99,100,101,102,103,104,105,106,107,108,109,110,111,112,113,114,115,116,117,118,119,120,121,122,48,49,50,51,52,53,54,55,56,57,46,44,58,59,33,63,39,40,41,43,61,60,62,42,47] : List Nat) = [97,98,99,100,101,102,103,104,105,106,107,108,109,110,111,112,113,114,115,116,117,118,119,120,121,122] ++ [48,49,50,51,52,53,54,55,56,57,46,44,58,59,33,63,39,40,41,43,61,60,62,42,47] from rfl]
  exact List.mem_append_left _ h1
theorem cW_B {c : Nat} (h : cW c = true) : cB c = false := by
  refine decide_eq_false fun h2 => ?_
  rw [sB_list] at h2
  have h1 := of_decide_eq_true h
  rw [sW_list] at h1
  simp only [List.mem_cons, List.not_mem_nil, or_false] at h2
  rcases h2 with rfl | rfl
  · exact absurd h1 (by decide)
  · exact absurd h1 (by decide)
theorem cW_at : cW 64 = false := by
  unfold cW
  rw [sW_list]
  decide
theorem cB_at : cB 64 = false := by
  unfold cB
  rw [sB_list]
  decide
theorem cW_ne {c : Nat} (h : cW c = true) : c ≠ 64 := fun e => by
  rw [e, cW_at] at h
  cases h
theorem drop_le {α : Type} (p : α → Bool) : ∀ l : List α, (l.dropWhile p).length ≤ l.length
  | [] => Nat.le_refl _
  | c :: r => by
    rw [List.dropWhile_cons]
    split
    · exact Nat.le_trans (drop_le p r) (Nat.le_succ _)
    · exact Nat.le_refl _
/-- the tokens of a text -/
def tokF : Nat → List Nat → List (List Nat)
  | 0, _ => []
  | _ + 1, [] => []
  | n + 1, c :: r =>
    if cB c then tokF n r else if c = 64 then (c :: r.takeWhile cL) :: tokF n (r.dropWhile cL)
    else if cW c then (c :: r.takeWhile cW) :: tokF n (r.dropWhile cW) else [c] :: tokF n r
theorem tokF_more : ∀ (n m : Nat) (zs : List Nat), zs.length ≤ n → zs.length ≤ m → tokF n zs = tokF m zs
  | 0, 0, _, _, _ => rfl
  | 0, m + 1, zs, h, _ => by
    have e : zs = [] := List.length_eq_zero_iff.mp (Nat.le_zero.mp h)
    subst e
    rfl
  | n + 1, 0, zs, _, h => by
    have e : zs = [] := List.length_eq_zero_iff.mp (Nat.le_zero.mp h)
    subst e
    rfl
  | n + 1, m + 1, [], _, _ => rfl
  | n + 1, m + 1, c :: r, h1, h2 => by
    have a1 : r.length ≤ n := Nat.le_of_succ_le_succ h1
    have a2 : r.length ≤ m := Nat.le_of_succ_le_succ h2
    have d1 := drop_le cL r
    have d2 := drop_le cW r
    show (if cB c then tokF n r else if c = 64 then (c :: r.takeWhile cL) :: tokF n (r.dropWhile cL) else if cW c then (c :: r.takeWhile cW) :: tokF n (r.dropWhile cW) else [c] :: tokF n r) =
      (if cB c then tokF m r else if c = 64 then (c :: r.takeWhile cL) :: tokF m (r.dropWhile cL) else if cW c then (c :: r.takeWhile cW) :: tokF m (r.dropWhile cW) else [c] :: tokF m r)
    rw [tokF_more n m r a1 a2, tokF_more n m _ (Nat.le_trans d1 a1) (Nat.le_trans d1 a2), tokF_more n m _ (Nat.le_trans d2 a1) (Nat.le_trans d2 a2)]
def tok (zs : List Nat) : List (List Nat) := tokF zs.length zs
theorem tok_nil : tok [] = [] := rfl
theorem tok_cons (c : Nat) (r : List Nat) : tok (c :: r) = if cB c then tok r else if c = 64 then (c :: r.takeWhile cL) :: tok (r.dropWhile cL)
    else if cW c then (c :: r.takeWhile cW) :: tok (r.dropWhile cW) else [c] :: tok r := by
  show (if cB c then tokF r.length r else if c = 64 then (c :: r.takeWhile cL) :: tokF r.length (r.dropWhile cL) else if cW c then (c :: r.takeWhile cW) :: tokF r.length (r.dropWhile cW) else [c] :: tokF r.length r) = _
  rw [tokF_more r.length (r.dropWhile cL).length (r.dropWhile cL) (drop_le _ _) (Nat.le_refl _), tokF_more r.length (r.dropWhile cW).length (r.dropWhile cW) (drop_le _ _) (Nat.le_refl _)]
  rfl
/-! #### what the law's own walk has found, and how it goes on -/
def cont : Nat → List (List Nat) → List Nat → List (List Nat)
  | 1, f, r => f.dropLast ++ ((f.getLast?.getD []) ++ r.takeWhile cW) :: tok (r.dropWhile cW)
  | 2, f, r => f.dropLast ++ ((f.getLast?.getD []) ++ r.takeWhile cL) :: tok (r.dropWhile cL)
  | _, f, r => f ++ tok r
theorem cont0 (f : List (List Nat)) (r : List Nat) : cont 0 f r = f ++ tok r := rfl
theorem cont1 (g : List (List Nat)) (t r : List Nat) : cont 1 (g ++ [t]) r = g ++ (t ++ r.takeWhile cW) :: tok (r.dropWhile cW) := by
  show (g ++ [t]).dropLast ++ (((g ++ [t]).getLast?.getD []) ++ r.takeWhile cW) :: tok (r.dropWhile cW) = _
  rw [List.dropLast_concat, List.getLast?_concat]; rfl
theorem cont2 (g : List (List Nat)) (t r : List Nat) : cont 2 (g ++ [t]) r = g ++ (t ++ r.takeWhile cL) :: tok (r.dropWhile cL) := by
  show (g ++ [t]).dropLast ++ (((g ++ [t]).getLast?.getD []) ++ r.takeWhile cL) :: tok (r.dropWhile cL) = _
  rw [List.dropLast_concat, List.getLast?_concat]; rfl
/-- a sign that goes on -/
theorem cont1_on {c : Nat} (h : cW c = true) (g : List (List Nat)) (t r : List Nat) : cont 1 (g ++ [t]) (c :: r) = cont 1 (g ++ [t ++ [c]]) r := by
  rw [cont1, cont1, List.takeWhile_cons_of_pos h, List.dropWhile_cons_of_pos h, List.append_assoc]; rfl
theorem cont2_on {c : Nat} (h : cL c = true) (g : List (List Nat)) (t r : List Nat) : cont 2 (g ++ [t]) (c :: r) = cont 2 (g ++ [t ++ [c]]) r := by
  rw [cont2, cont2, List.takeWhile_cons_of_pos h, List.dropWhile_cons_of_pos h, List.append_assoc]; rfl
/-- a sign that doesn't -/
theorem cont1_off {c : Nat} (h : cW c = false) (g : List (List Nat)) (t r : List Nat) : cont 1 (g ++ [t]) (c :: r) = cont 0 (g ++ [t]) (c :: r) := by
  rw [cont1, cont0, List.takeWhile_cons_of_neg (by rw [h]; decide), List.dropWhile_cons_of_neg (by rw [h]; decide), List.append_nil, List.append_assoc]; rfl
theorem cont2_off {c : Nat} (h : cL c = false) (g : List (List Nat)) (t r : List Nat) : cont 2 (g ++ [t]) (c :: r) = cont 0 (g ++ [t]) (c :: r) := by
  rw [cont2, cont0, List.takeWhile_cons_of_neg (by rw [h]; decide), List.dropWhile_cons_of_neg (by rw [h]; decide), List.append_nil, List.append_assoc]; rfl
theorem cont_blank {c : Nat} (h : cB c = true) (f : List (List Nat)) (r : List Nat) : cont 0 f (c :: r) = cont 0 f r := by
  rw [cont0, cont0, tok_cons, if_pos h]
theorem cont_at (f : List (List Nat)) (r : List Nat) : cont 0 f (64 :: r) = cont 2 (f ++ [[64]]) r := by
  rw [cont0, cont2, tok_cons, if_neg (by rw [cB_at]; decide), if_pos rfl]; rfl
theorem cont_word {c : Nat} (h : cW c = true) (f : List (List Nat)) (r : List Nat) : cont 0 f (c :: r) = cont 1 (f ++ [[c]]) r := by
  rw [cont0, cont1, tok_cons, if_neg (by rw [cW_B h]; decide), if_neg (cW_ne h), if_pos h]; rfl
theorem cont_odd {c : Nat} (hb : cB c = false) (h : cW c = false) (ha : c ≠ 64) (f : List (List Nat)) (r : List Nat) : cont 0 f (c :: r) = cont 0 (f ++ [[c]]) r := by
  rw [cont0, cont0, tok_cons, if_neg (by rw [hb]; decide), if_neg ha, if_neg (by rw [h]; decide), List.append_assoc]; rfl
theorem cont_end1 (g : List (List Nat)) (t : List Nat) : cont 1 (g ++ [t]) [] = g ++ [t] := by
  rw [cont1]; show g ++ [t ++ []] = _; rw [List.append_nil]
theorem cont_end2 (g : List (List Nat)) (t : List Nat) : cont 2 (g ++ [t]) [] = g ++ [t] := by
  rw [cont2]; show g ++ [t ++ []] = _; rw [List.append_nil]
theorem cont_end0 (f : List (List Nat)) : cont 0 f [] = f := by
  rw [cont0, tok_nil, List.append_nil]
/-! #### tokens put together -/
/-- blanks and line feeds alone -/
def Bl (g : List Nat) : Prop := ∀ c ∈ g, cB c = true
/-- a token -/
def Tk (t : List Nat) : Prop := (∃ c, t = [c] ∧ cB c = false ∧ cW c = false ∧ c ≠ 64) ∨ (∃ r, t = 64 :: r ∧ ∀ c ∈ r, cL c = true) ∨ (t ≠ [] ∧ ∀ c ∈ t, cW c = true)
/-- the one runs on into the other -/
def runs (t u : List Nat) : Bool := if t.headD 0 = 64 then cL (u.headD 0) else cW (t.headD 0) && cW (u.headD 0)
theorem tok_gap : ∀ (g r : List Nat), Bl g → tok (g ++ r) = tok r
  | [], _, _ => rfl
  | c :: g, r, h => by
    rw [List.cons_append, tok_cons, if_pos (h c List.mem_cons_self)]
    exact tok_gap g r fun z hz => h z (List.mem_cons_of_mem _ hz)
theorem take_all {p : Nat → Bool} : ∀ (t r : List Nat), (∀ c ∈ t, p c = true) → (∀ c r', r = c :: r' → p c = false) → (t ++ r).takeWhile p = t ∧ (t ++ r).dropWhile p = r
  | [], [], _, _ => ⟨rfl, rfl⟩
  | [], c :: r, _, h => by
    have e := h c r rfl
    rw [List.nil_append, List.takeWhile_cons_of_neg (by rw [e]; decide), List.dropWhile_cons_of_neg (by rw [e]; decide)]
    exact ⟨rfl, rfl⟩
  | c :: t, r, ht, h => by
    have ⟨a, b⟩ := take_all t r (fun z hz => ht z (List.mem_cons_of_mem _ hz)) h
    rw [List.cons_append, List.takeWhile_cons_of_pos (ht c List.mem_cons_self), List.dropWhile_cons_of_pos (ht c List.mem_cons_self), a, b]
    exact ⟨rfl, rfl⟩
theorem tok_tok {t r : List Nat} (h : Tk t) (hr : r = [] ∨ runs t r = false) : tok (t ++ r) = t :: tok r := by
  rcases h with ⟨c, rfl, hb, hw, ha⟩ | ⟨u, rfl, hu⟩ | ⟨hn, hw⟩
  · show tok (c :: r) = _
    rw [tok_cons, if_neg (by rw [hb]; decide), if_neg ha, if_neg (by rw [hw]; decide)]
  · have hs : ∀ c r', r = c :: r' → cL c = false := by
      intro c r' e
      rcases hr with z | z
      · rw [z] at e; cases e
      · subst e; exact z
    have ⟨a, b⟩ := take_all u r hu hs
    rw [List.cons_append, tok_cons, if_neg (by rw [cB_at]; decide), if_pos rfl, a, b]
  · cases t with
    | nil => exact absurd rfl hn
    | cons c u =>
      have hc := hw c List.mem_cons_self
      have hs : ∀ x r', r = x :: r' → cW x = false := by
        intro x r' e
        rcases hr with z | z
        · rw [z] at e; cases e
        · subst e
          unfold runs at z
          rw [show (c :: u).headD 0 = c from rfl, if_neg (cW_ne hc), hc] at z
          exact z
      have ⟨a, b⟩ := take_all u r (fun z hz => hw z (List.mem_cons_of_mem _ hz)) hs
      rw [List.cons_append, tok_cons, if_neg (by rw [cW_B hc]; decide), if_neg (cW_ne hc), if_pos hc, a, b]
/-- tokens and the gaps behind them, put into one row -/
def mixed : List (List Nat) → List (List Nat) → List Nat
  | t :: ts, g :: gs => t ++ (g ++ mixed ts gs)
  | _, _ => []
/-- what is asked of a gap behind token k -/
def need (ts : List (List Nat)) (k : Nat) : Bool := match ts[k]?, ts[k + 1]? with
  | some t, some u => runs t u
  | _, _ => false
theorem runs_bl {t g r : List Nat} (hn : g ≠ []) (hg : Bl g) : runs t (g ++ r) = false := by
  cases g with
  | nil => exact absurd rfl hn
  | cons c g =>
    have hb := hg c List.mem_cons_self
    have hw : cW c = false := by
      cases e : cW c with
      | false => rfl
      | true => rw [cW_B e] at hb; cases hb
    have hl : cL c = false := by
      cases e : cL c with
      | false => rfl
      | true => rw [cL_W e] at hw; cases hw
    unfold runs
    rw [List.cons_append]
    show (if t.headD 0 = 64 then cL c else cW (t.headD 0) && cW c) = false
    rw [hl, hw, Bool.and_false]
    split <;> rfl
theorem runs_head {t u r : List Nat} (hu : u ≠ []) : runs t (u ++ r) = runs t u := by
  cases u with
  | nil => exact absurd rfl hu
  | cons c u => rfl
theorem Tk.ne {t : List Nat} (h : Tk t) : t ≠ [] := by
  rcases h with ⟨c, rfl, _⟩ | ⟨r, rfl, _⟩ | ⟨h, _⟩
  · exact fun e => by cases e
  · exact fun e => by cases e
  · exact h
theorem tok_mixed : ∀ (ts gs : List (List Nat)), (∀ t ∈ ts, Tk t) → gs.length = ts.length → (∀ k g, gs[k]? = some g → Bl g ∧ (need ts k = true → g ≠ [])) → tok (mixed ts gs) = ts
  | [], [], _, _, _ => rfl
  | [], _ :: _, _, h, _ => by cases h
  | _ :: _, [], _, h, _ => by cases h
  | t :: ts, g :: gs, ht, hl, hg => by
    have ih := tok_mixed ts gs (fun u hu => ht u (List.mem_cons_of_mem _ hu)) (Nat.succ.inj hl) (fun k g' e => by
      have := hg (k + 1) g' e
      exact this)
    obtain ⟨hb, hne⟩ := hg 0 g rfl
    show tok (t ++ (g ++ mixed ts gs)) = t :: ts
    rw [tok_tok (ht t List.mem_cons_self), tok_gap g _ hb, ih]
    by_cases e : g = []
    · subst e
      rw [List.nil_append]
      cases ts with
      | nil => exact .inl (by cases gs <;> rfl)
      | cons u us =>
        cases gs with
        | nil => cases hl
        | cons g2 gs2 =>
          refine .inr ?_
          show runs t (u ++ (g2 ++ mixed us gs2)) = false
          rw [runs_head (ht u (List.mem_cons_of_mem _ List.mem_cons_self)).ne]
          cases q : runs t u with
          | false => rfl
          | true => exact absurd rfl (hne q)
    · exact .inr (runs_bl e hb)
/-! #### small things -/
theorem take_succ' {α : Type} {l : List α} {i : Nat} {x : α} (h : l[i]? = some x) : l.take (i + 1) = l.take i ++ [x] := by
  rw [List.take_add_one, h]; rfl
theorem big_ok {n : Nat} (h : n ≤ 100000) : n ≤ sizeLine := Nat.le_trans h (by decide)
theorem get_sV {ts : List (List Nat)} {i : Nat} {t : List Nat} (h : ts[i]? = some t) : (ts.map sV)[i]? = some (sV t) := by
  rw [List.getElem?_map, h]; rfl
theorem drop_at {zs : List Nat} {i c : Nat} (h : zs[i]? = some c) : zs.drop i = c :: zs.drop (i + 1) := by
  have ⟨h1, h2⟩ := List.getElem?_eq_some_iff.mp h
  rw [List.drop_eq_getElem_cons h1, h2]
theorem same_mut {H H' : Hp} {p : Addr} {o : HO} (a : Same H H') (hp : H p = none) : Same H (upd H' p o) := fun x u h => by
  rw [upd_ne (ne_of_none h hp)]; exact a x u h
theorem same_upd {H H' : Hp} {p : Addr} {o : HO} (a : Same H H') (hp : H' p = none) : Same H (upd H' p o) := fun x u h => by
  have h2 := a x u h
  rw [upd_ne (ne_of_none h2 hp)]; exact h2
theorem dec_sign (c : Nat) (z : Str) (e : Nat) (hz : z = mkS [e]) : decide (V.str ⟨#[c]⟩ = V.str z) = decide (c = e) := by
  rw [hz]
  by_cases h : c = e
  · subst h; rw [decide_eq_true rfl]; exact decide_eq_true rfl
  · rw [decide_eq_false h]
    refine decide_eq_false fun q => h ?_
    have e2 : mkS [c] = mkS [e] := V.str.inj q
    have e3 := mkS_inj e2
    injection e3
theorem tf (b : Bool) : b = true ∨ b = false := by cases b <;> simp
theorem bl_of {p : Prop} [Decidable p] {b : Bool} (h : decide p = b) : V.bl (decide p) = V.bl b := congrArg V.bl h
theorem at_mk : (("@" : Str)) = mkS [64] := by decide +kernel
/-! ### texts put together -/
theorem empty_mk : (("" : Str)) = mkS [] := by decide +kernel
theorem map_sV (zss : List (List Nat)) : zss.map sV = (zss.map mkS).map V.str := by
  rw [List.map_map]; rfl
theorem sum_len : ∀ zss : List (List Nat), ((zss.map mkS).map (·.length)).sum = zss.flatten.length
  | [] => rfl
  | z :: r => by
    rw [List.map_cons, List.map_cons, List.sum_cons, sum_len r, List.flatten_cons, List.length_append, mkS_len]
theorem joinL_nil : ∀ zss : List (List Nat), joinL [] zss = zss.flatten
  | [] => rfl
  | [z] => by show z = z ++ []; rw [List.append_nil]
  | z :: y :: r => by
    show z ++ ([] ++ joinL [] (y :: r)) = z ++ (y :: r).flatten
    rw [List.nil_append, joinL_nil (y :: r)]
theorem join_mk (zss : List (List Nat)) : Txt.join ("" : Str) (zss.map mkS) = mkS zss.flatten := by
  have h : tl (Txt.join ("" : Str) (zss.map mkS)) = zss.flatten := by
    rw [join_eq, tl_join, show (zss.map mkS).map tl = zss from (by rw [List.map_map]; exact List.map_id'' (fun _ => rfl) zss), empty_mk]
    exact joinL_nil zss
  rw [← h]; rfl
theorem flat_len {B : Nat} : ∀ {zss : List (List Nat)}, (∀ z ∈ zss, z.length ≤ B) → zss.flatten.length ≤ zss.length * B
  | [], _ => Nat.zero_le _
  | z :: r, h => by
    have ih := flat_len (zss := r) fun y hy => h y (List.mem_cons_of_mem _ hy)
    have hz := h z List.mem_cons_self
    rw [List.flatten_cons, List.length_append, List.length_cons, Nat.succ_mul]
    omega
theorem flat_one : ∀ {zss : List (List Nat)}, (∀ z ∈ zss, z.length = 1) → zss.flatten.length = zss.length
  | [], _ => rfl
  | z :: r, h => by
    rw [List.flatten_cons, List.length_append, List.length_cons, flat_one fun y hy => h y (List.mem_cons_of_mem _ hy), h z List.mem_cons_self]
    omega
theorem blank_mk : ((" " : Str)) = mkS [32] := by decide +kernel
theorem feed_mk : (("\n" : Str)) = mkS [10] := by decide +kernel
end Vf

set_option Elab.async false
set_option linter.all false
set_option maxRecDepth 100000
set_option maxHeartbeats 4000000
namespace Vf
open PySem PySem.Spec PyProof.Rows L2 TL
open PySem.Builtin.Str (occurrences subAt strSliceIndices)
/-! ### the first place of a sign -/
theorem occ_done (s sub : Str) (hi limit : Nat) : ∀ (l : List Nat) (st : Array Nat × Nat), limit ≤ st.fst.size → (forIn (m := Id) l st (StrLaws.occBody s sub hi limit)).run.fst = st.fst
  | [], st, h => rfl
  | a :: l, st, h => by
    rw [List.forIn_cons]
    unfold StrLaws.occBody
    rw [if_neg (fun c => Nat.lt_irrefl _ (Nat.lt_of_lt_of_le c.1.1.1 h))]
    exact occ_done s sub hi limit l st h
theorem before_idx {l : List Nat} {c a : Nat} (h : a < l.idxOf c) : l[a]? ≠ some c := by
  induction l generalizing a with
  | nil => simp
  | cons x r ih =>
    rw [List.idxOf_cons] at h
    cases hx : x == c with
    | true => rw [hx] at h; exact absurd h (Nat.not_lt_zero _)
    | false =>
      rw [hx] at h
      cases a with
      | zero => intro e; have e2 : x = c := Option.some.inj e; rw [e2, beq_self_eq_true] at hx; cases hx
      | succ a => exact ih (Nat.lt_of_succ_lt_succ h)
theorem at_idx {l : List Nat} {c : Nat} (h : c ∈ l) : l[l.idxOf c]? = some c := by
  induction l with
  | nil => cases h
  | cons x r ih =>
    rw [List.idxOf_cons]
    cases hx : x == c with
    | true =>
      have e2 : x = c := eq_of_beq hx
      rw [e2]; rfl
    | false =>
      have ne : x ≠ c := fun e => by rw [e, beq_self_eq_true] at hx; cases hx
      rcases List.mem_cons.mp h with e | e
      · exact absurd e.symm ne
      · exact ih e
theorem occ_run {x : Str} {c : Nat} (hc : c ∈ x.cps.toList) : ∀ (n a : Nat), a ≤ x.cps.toList.idxOf c → x.cps.toList.idxOf c < a + n →
    (forIn (m := Id) (List.range' a n) ((#[] : Array Nat), 0) (StrLaws.occBody x ⟨#[c]⟩ x.length 1)).run.fst = #[x.cps.toList.idxOf c]
  | 0, a, h1, h2 => absurd h2 (by omega)
  | n + 1, a, h1, h2 => by
    rw [List.range'_succ, List.forIn_cons]
    unfold StrLaws.occBody
    by_cases e : a = x.cps.toList.idxOf c
    · have g := (StrLaws.subAt_one x c a).mpr (by rw [e]; exact at_idx hc)
      rw [if_pos ⟨⟨⟨Nat.one_pos, Nat.zero_le _⟩, g.1⟩, g.2⟩]
      have := occ_done x ⟨#[c]⟩ x.length 1 (List.range' (a + 1) n) ((#[] : Array Nat).push a, a + (⟨#[c]⟩ : Str).length) (Nat.le_refl _)
      refine Eq.trans this ?_
      rw [← e]; rfl
    · have lt : a < x.cps.toList.idxOf c := by omega
      rw [if_neg (fun z => before_idx lt ((StrLaws.subAt_one x c a).mp ⟨z.1.2, z.2⟩))]
      exact occ_run hc n (a + 1) lt (by omega)
theorem occ_first {x : Str} {c : Nat} (hc : c ∈ x.cps.toList) : occurrences x ⟨#[c]⟩ 0 x.length 1 = [x.cps.toList.idxOf c] := by
  rw [StrLaws.occ_eq, occ_run hc _ 0 (Nat.zero_le _) ?_]
  have h := (List.getElem?_eq_some_iff.mp (at_idx hc)).1
  have e : x.length = x.cps.toList.length := len_cps x
  omega
theorem find_first {x : Str} {c : Nat} (hc : c ∈ x.cps.toList) : Txt.find x ⟨#[c]⟩ = ((x.cps.toList.idxOf c : Nat) : Int) := by
  unfold Txt.find
  rw [occ_first hc]
/-! ### z[lo::n] -/
def idxS (z : Str) (lo : Option Int) (n : Int) : List Nat := strSliceIndices lo none n z.length
def pickS (z : Str) (lo : Option Int) (n : Int) : Str :=
  if (n == 1 && (idxS z lo n).length == z.length) = true then z else ⟨((idxS z lo n).filterMap (z.cps[·]?)).toArray⟩
theorem fm_some {α β : Type} {f : α → Option β} {g : α → β} : ∀ (l : List α), (∀ k ∈ l, f k = some (g k)) → l.filterMap f = l.map g
  | [], _ => rfl
  | a :: l, h => by
    rw [List.filterMap_cons_some (h a List.mem_cons_self), fm_some l fun k hk => h k (List.mem_cons_of_mem _ hk)]; rfl
/-- the places lo, lo + n, .. below z's length -/
def upS (len lo n : Nat) : List Nat := (List.range ((len - lo + n - 1) / n)).map fun k => lo + n * k
theorem idx_up {z : Str} {lo n : Nat} (hn : 0 < n) (hl : lo ≤ z.length) : idxS z (some (lo : Int)) (n : Int) = upS z.length lo n := by
  unfold idxS strSliceIndices PySem.sliceRange upS
  have h1 : ¬ ((lo : Int) < 0) := by omega
  have h2 : (n : Int) > 0 := by omega
  have e1 : max (0 : Int) (min (lo : Int) (z.length : Int)) = (lo : Int) := by omega
  simp only [if_neg h1, if_pos h2, e1]
  by_cases c : (lo : Int) < (z.length : Int)
  · rw [if_pos c]
    have e2 : (((z.length : Int) - (lo : Int) + (n : Int) - 1) / (n : Int)).toNat = (z.length - lo + n - 1) / n := by
      rw [show ((z.length : Int) - (lo : Int) + (n : Int) - 1) = ((z.length - lo + n - 1 : Nat) : Int) by omega, ← Int.natCast_ediv, Int.toNat_natCast]
    rw [e2]
    refine List.map_congr_left fun k _ => ?_
    rw [show ((lo : Int) + (n : Int) * (k : Int)) = ((lo + n * k : Nat) : Int) by rw [Int.natCast_add, Int.natCast_mul], Int.toNat_natCast]
  · rw [if_neg c]
    have e3 : (z.length - lo + n - 1) / n = 0 := Nat.div_eq_of_lt (by omega)
    rw [e3]; rfl
theorem idx_none {z : Str} {n : Nat} (hn : 0 < n) : idxS z none (n : Int) = upS z.length 0 n := by
  rw [← idx_up (lo := 0) hn (Nat.zero_le _)]
  unfold idxS strSliceIndices
  have h2 : (n : Int) > 0 := by omega
  have h1 : ¬ (((0 : Nat) : Int) < 0) := by omega
  have e1 : max (0 : Int) (min ((0 : Nat) : Int) (z.length : Int)) = 0 := by omega
  simp only [if_pos h2, if_neg h1, e1]
theorem up_lt {len lo n k : Nat} (hn : 0 < n) (hk : k < (len - lo + n - 1) / n) : lo + n * k < len := by
  have h1 : k + 1 ≤ (len - lo + n - 1) / n := hk
  have h2 : (k + 1) * n ≤ len - lo + n - 1 := (Nat.le_div_iff_mul_le hn).mp h1
  rw [Nat.add_mul, Nat.one_mul, Nat.mul_comm k n] at h2
  omega
/-- the signs at lo, lo + n, .. -/
theorem pick_at {z : Str} {o : Option Int} {lo n : Nat} (hn : 0 < n) (e : idxS z o (n : Int) = upS z.length lo n) (k c : Nat) (h : (pickS z o (n : Int)).cps.toList[k]? = some c) : z.cps.toList[lo + n * k]? = some c := by
  unfold pickS at h
  by_cases cc : ((n : Int) == 1 && (idxS z o (n : Int)).length == z.length) = true
  · rw [if_pos cc] at h
    rw [Bool.and_eq_true] at cc
    have n1 : (n : Int) = 1 := eq_of_beq cc.1
    have n1 : n = 1 := by omega
    subst n1
    have l1 : (idxS z o ((1 : Nat) : Int)).length = z.length := eq_of_beq cc.2
    rw [e] at l1
    unfold upS at l1
    rw [List.length_map, List.length_range, Nat.div_one] at l1
    have hk := (List.getElem?_eq_some_iff.mp h).1
    have hz := len_cps z
    have : lo = 0 := by omega
    subst this
    rw [Nat.zero_add, Nat.one_mul]; exact h
  · rw [if_neg cc, e] at h
    have e2 : (upS z.length lo n).filterMap (z.cps[·]?) = (List.range ((z.length - lo + n - 1) / n)).map fun k => z.cps.toList.getD (lo + n * k) 0 := by
      unfold upS
      rw [List.filterMap_map]
      refine fm_some _ fun k hk => ?_
      have hlt := up_lt hn (List.mem_range.mp hk)
      rw [len_cps] at hlt
      show z.cps[lo + n * k]? = some (z.cps.toList.getD (lo + n * k) 0)
      rw [List.getD_eq_getElem?_getD, List.getElem?_eq_getElem hlt, ← Array.getElem?_toList, List.getElem?_eq_getElem hlt]; rfl
    rw [e2] at h
    have h : ((List.range ((z.length - lo + n - 1) / n)).map fun k => z.cps.toList.getD (lo + n * k) 0)[k]? = some c := h
    rw [List.getElem?_map] at h
    by_cases hk : k < (z.length - lo + n - 1) / n
    · have hlt := up_lt hn hk
      rw [len_cps] at hlt
      rw [List.getElem?_eq_getElem (by rw [List.length_range]; exact hk), List.getElem_range] at h
      have h : some (z.cps.toList.getD (lo + n * k) 0) = some c := h
      rw [← h, List.getD_eq_getElem?_getD, List.getElem?_eq_getElem hlt]; rfl
    · rw [List.getElem?_eq_none (by rw [List.length_range]; omega)] at h
      cases h
theorem pick_len {z : Str} {o : Option Int} {lo n : Nat} (hn : 0 < n) (e : idxS z o (n : Int) = upS z.length lo n) : (pickS z o (n : Int)).cps.toList.length ≤ z.length ∧ (lo < z.length → 0 < (pickS z o (n : Int)).cps.toList.length) := by
  have hz := len_cps z
  unfold pickS
  by_cases cc : ((n : Int) == 1 && (idxS z o (n : Int)).length == z.length) = true
  · rw [if_pos cc]; omega
  · rw [if_neg cc, e]
    show ((upS z.length lo n).filterMap (z.cps[·]?)).length ≤ _ ∧ (_ → 0 < ((upS z.length lo n).filterMap (z.cps[·]?)).length)
    have e2 : (upS z.length lo n).filterMap (z.cps[·]?) = (List.range ((z.length - lo + n - 1) / n)).map fun k => z.cps.toList.getD (lo + n * k) 0 := by
      unfold upS
      rw [List.filterMap_map]
      refine fm_some _ fun k hk => ?_
      have hlt := up_lt hn (List.mem_range.mp hk)
      rw [len_cps] at hlt
      show z.cps[lo + n * k]? = some (z.cps.toList.getD (lo + n * k) 0)
      rw [List.getD_eq_getElem?_getD, List.getElem?_eq_getElem hlt, ← Array.getElem?_toList, List.getElem?_eq_getElem hlt]; rfl
    rw [e2, List.length_map, List.length_range]
    refine ⟨?_, fun h => Nat.div_pos (by omega) hn⟩
    by_cases q : lo < z.length
    · rw [Nat.div_le_iff_le_mul hn]
      have : z.length * n ≥ z.length - lo := Nat.le_trans (Nat.sub_le _ _) (Nat.le_mul_of_pos_right _ hn)
      omega
    · rw [Nat.div_eq_of_lt (by omega)]; exact Nat.zero_le _
def tStep (te : TE) (tl ts : TO) : TE := fun σ H Q => te σ H fun x H1 => tl σ H1 fun l H2 => ts σ H2 fun k H3 => ∃ (z : Str) (n : Int), x = .str z ∧ k = some n ∧ 0 < n ∧ z.length ≤ 100000 ∧ (pickS z l n).length ≤ 100000 ∧ Q (.str (pickS z l n)) H3
theorem pe_step {X : Cx} {e st : Expr} {lo : Option Expr} {te : TE} {tl ts : TO} {p2 pos : Pos} (he : PE X e te) (hl : PO X lo tl) (hs : PO X (some st) ts) : PE X (.Subscript e (.Slice lo none (some st) p2) pos) (tStep te tl ts) := by
  refine ⟨fun pins s σ H Q I h => ?_⟩
  refine Subscript_ (thn (he.run pins s σ H _ I h) fun v s1 ⟨x, H1, I1, r1, q1⟩ => ?_)
  refine wpAny_Slice (thn (hl.run pins s1 σ H1 _ I1 q1) fun vl s2 ⟨l, H2, I2, pl, q2⟩ => thn (po_none.run pins s2 σ H2 (fun o H3 => o = none ∧ H3 = H2) I2 ⟨rfl, rfl⟩) fun vu s3 ⟨u, H3, I3, pu, eu, e3⟩ => ?_)
  subst eu e3
  refine thn (hs.run pins s3 σ H3 _ I3 q2) fun vs s4 ⟨k, H4, I4, ps, q3⟩ => ?_
  obtain ⟨z, n, rfl, rfl, hn, hz, hp, q⟩ := q3
  have I5 : Inv X pins σ H4 { s4 with heap := s4.heap.push { cls := .type "slice", data := .fields #[vl, vu, vs] } } := I4.kept (t' := s4.toks) fun b ob q => Heap.get?_push_of_some _ q
  obtain ⟨t, rfl⟩ := r1
  obtain ⟨l', rfl, rfl⟩ := IsPart.raw pl
  obtain ⟨u', rfl, hu'⟩ := IsPart.raw pu
  obtain ⟨n', rfl, hn'⟩ := IsPart.raw ps
  cases u' with
  | some u => cases hu'
  | none =>
  cases n' with
  | none => cases hn'
  | some n' =>
    have en : n'.1 = n := Option.some.inj hn'
    subst en
    refine tail_any (ops := [.ref s4.heap.objs.size, .str z t]) (typeIs_str _ _ _) F.slot_str_getitem.lookup ?_ (by with_unfolding_all rfl)
    refine wpAny_getItem_str_slice (l := l') (u := none) (st := some n') ⟨_, Heap.get?_push_size _ rfl, rfl, rfl⟩ ?_ ?_
    · show (n'.1 == 0) = false
      exact beq_eq_false_iff_ne.mpr (by omega)
    · show Made.post (if (n'.1 == 1 && (idxS z (l'.map (·.1)) n'.1).length == z.length) = true then Made.val (.str z t) else Made.str ⟨((idxS z (l'.map (·.1)) n'.1).filterMap (z.cps[·]?)).toArray⟩) (EP X pins σ Q) _
      unfold pickS at q hp
      by_cases c : (n'.1 == 1 && (idxS z (l'.map (·.1)) n'.1).length == z.length) = true
      · rw [if_pos c] at q ⊢
        exact ⟨.str z, H4, I5, ⟨t, rfl⟩, q⟩
      · rw [if_neg c] at q hp ⊢
        exact ⟨big_ok hp, .str _, H4, I5.tok _, ⟨_, rfl⟩, q⟩
end Vf

set_option Elab.async false
set_option linter.all false
set_option maxRecDepth 100000
set_option maxHeartbeats 4000000
namespace Vf
open PySem PySem.Spec PyProof.Rows L2 TL
/-- what the list of a comprehension holds: texts -/
def PvS (R : List Nat → Prop) (d l : Addr) (H : Hp) (D : Addr) (i : Nat) (H' : Hp) : Prop :=
  ∃ zss : List (List Nat), zss.length = i ∧ (∀ zs ∈ zss, R zs) ∧ Kp d H H' ∧ DI d l H' ∧ H' D = some (.lst (zss.map sV))
theorem PvS.start {R : List Nat → Prop} {d l D : Addr} {H : Hp} (hD : DI d l H) (nD : H D = none) : PvS R d l H D 0 (upd H D (.lst [])) :=
  ⟨[], rfl, (fun _ h => nomatch h), (Kp.refl d H).new nD, hD.new nD, upd_same⟩
theorem PvS.dice {R : List Nat → Prop} {d l D : Addr} {H H1 : Hp} {i : Nat} (p : PvS R d l H D i H1) : DI d l H1 := by
  obtain ⟨_, _, _, _, h, _⟩ := p
  exact h
theorem PvS.step {R : List Nat → Prop} {d l D : Addr} {H H1 H2 : Hp} {i : Nat} {zs : List Nat} (hD : DI d l H) (nD : H D = none) (p : PvS R d l H D i H1) (hi : i < 100000) (K2 : Kp d H1 H2) (D2 : DI d l H2) (r : R zs) :
    ∃ acc, H2 D = some (.lst acc) ∧ acc.length < sizeLine ∧ PvS R d l H D (i + 1) (upd H2 D (.lst (acc ++ [sV zs]))) := by
  obtain ⟨zss, hl, hR, K1, D1, e1⟩ := p
  have n1 := hD.nd nD
  have e2 : H2 D = some (.lst (zss.map sV)) := K2 _ _ n1.1 e1
  refine ⟨_, e2, ?_, zss ++ [zs], ?_, ?_, (K1.trans K2).mut nD, D2.at n1.1 n1.2, ?_⟩
  · rw [List.length_map, hl]
    exact Nat.lt_of_lt_of_le hi (by decide)
  · rw [List.length_append, hl]; rfl
  · intro z hz
    rcases List.mem_append.mp hz with h | h
    · exact hR z h
    · rw [List.mem_singleton.mp h]; exact r
  · rw [upd_same, List.map_append]; rfl
section
variable {P : Program} {w : World} {K : PySem.W.Frag} {mg : Str → Option Value} {base : Heap}
/-! ### pick, rare -/
/-- what is picked from -/
def Row (K : PySem.W.Frag) (H : Hp) (d : Addr) (row : V) (xs : List V) : Prop :=
  (∃ a, row = .ref a ∧ a ≠ d ∧ SqL K H a xs) ∨ ∃ zs, row = sV zs ∧ xs = zs.map fun c => sV [c]
def spPick (K : PySem.W.Frag) : Sp := fun vs H Q _ => ∃ (d l : Addr) (row : V) (xs : List V), vs = [.ref d, row] ∧ DI d l H ∧ Row K H d row xs ∧ 0 < xs.length ∧ xs.length ≤ 1000 ∧
  ∀ H' v, Kp d H H' → DI d l H' → v ∈ xs → Q v H'
theorem at_draw {xs : List V} {r : Int} (h : 0 < xs.length) (h1 : (xs.length : Int) < 2 → r = 0) (h2 : 2 ≤ (xs.length : Int) → 0 ≤ r ∧ r < (xs.length : Int)) :
    ∃ (j : Nat) (hj : j < xs.length), r = (j : Int) := by
  by_cases h3 : 2 ≤ (xs.length : Int)
  · have ⟨a, b⟩ := h2 h3
    exact ⟨r.toNat, by omega, by omega⟩
  · exact ⟨0, h, by rw [h1 (by omega)]; rfl⟩
theorem ok_pick (T : Txt K mg) : FnOk P w K mg base CX0 2 T.a_law_pick T.d_law_pick ["_law_d", "_law_row"] (spPick K) := by
  have G_law_draw : FnOk P w K mg base CX0 1 T.a_law_draw T.d_law_draw ["_law_d", "_law_many"] spDraw := ok_draw T
  refine T.D_law_pick.F.ok sc_law_pick (fun vs H Q E h => ?_) (fun cdv A outer s H vs Q E hr h => ?_)
  · obtain ⟨d, l, row, xs, rfl, _⟩ := h
    rfl
  · obtain ⟨d, l, row, xs, rfl, hD, hR, h0, hx, q⟩ := h
    refine ⟨_, (pss_one (ps_ret (pe_ix ix_seq (pv 1) (pe_call G_law_draw (hr.mono (by decide)) (by rfl) T.D_law_draw.G T.D_law_draw.F.kp T.D_law_draw.B .nil pass0 (pa_cons (pv 0) (pa_cons (pe_callB call_len (by rfl) T.n_len PySem.boot_len (pa_cons (pv 1) pa_nil)) pa_nil))) (fun _ _ => rfl)))), ?_⟩
    have hlen : LenV K row H xs.length := by
      rcases hR with ⟨a, rfl, _, hS⟩ | ⟨zs, rfl, rfl⟩
      · exact .inl ⟨_, hS, rfl⟩
      · rw [List.length_map] at hx ⊢
        refine ⟨?_, (mkS_len zs).symm⟩
        rw [mkS_len]
        exact Nat.le_trans hx (by decide)
    refine ⟨_, rfl, _, rfl, _, rfl, _, _, rfl, hlen, d, l, _, rfl, hD, by omega, fun H' r k D' e1 e2 => ?_⟩
    obtain ⟨j, hj, rfl⟩ := at_draw h0 e1 e2
    rcases hR with ⟨a, rfl, nd, hS⟩ | ⟨zs, rfl, rfl⟩
    · exact .inl ⟨a, xs, _, xs[j], rfl, rfl, k.sq nd hS, atI_nat (List.getElem?_eq_getElem hj), q H' _ k D' (List.getElem_mem hj)⟩
    · have hj2 : j < zs.length := by rw [List.length_map] at hj; exact hj
      refine .inr (.inr ⟨mkS zs, _, zs[j], rfl, rfl, ?_, ?_, q H' _ k D' (List.mem_map.mpr ⟨zs[j], List.getElem_mem hj2, rfl⟩)⟩)
      · rw [mkS_len]; rw [List.length_map] at hx; exact Nat.le_trans hx (by decide)
      · rw [mkS_cps]; exact atI_nat (List.getElem?_eq_getElem hj2)
def spRare : Sp := fun vs H Q _ => ∃ (d l : Addr) (m : Int), vs = [.ref d, .int m] ∧ DI d l H ∧ m ≤ 1000000 ∧ ∀ H' b, Kp d H H' → DI d l H' → Q (.bl b) H'
theorem ok_rare (T : Txt K mg) : FnOk P w K mg base CX0 2 T.a_law_rare T.d_law_rare ["_law_d", "_law_many"] spRare := by
  have G_law_draw : FnOk P w K mg base CX0 1 T.a_law_draw T.d_law_draw ["_law_d", "_law_many"] spDraw := ok_draw T
  refine T.D_law_rare.F.ok sc_law_rare (fun vs H Q E h => ?_) (fun cdv A outer s H vs Q E hr h => ?_)
  · obtain ⟨d, l, m, rfl, _⟩ := h
    rfl
  · obtain ⟨d, l, m, rfl, hD, hm, q⟩ := h
    refine ⟨_, (pss_one (ps_ret (pe_cmpR op_eq (pe_call G_law_draw (hr.mono (by decide)) (by rfl) T.D_law_draw.G T.D_law_draw.F.kp T.D_law_draw.B .nil pass0 (pa_cons (pv 0) (pa_cons (pv 1) pa_nil))) (pe_op op_fdivN (pe_op op_mul (pv 1) pe_int) pe_int) (nomark _)))), ?_⟩
    refine ⟨_, rfl, _, rfl, d, l, m, rfl, hD, (by omega), fun H' r k D' e1 e2 => ?_⟩
    exact ⟨_, rfl, _, _, rfl, rfl, .inr ⟨by decide, by decide⟩, _, _, rfl, rfl, ⟨by decide, by decide⟩, rfl, q H' _ k D'⟩
/-! ### run, word -/
def spRun : Sp := fun vs H Q _ => ∃ (d l : Addr) (cs : List Nat) (n : Int), vs = [.ref d, sV cs, .int n] ∧ DI d l H ∧ 0 < cs.length ∧ cs.length ≤ 1000 ∧ 0 ≤ n ∧ n ≤ 1000 ∧
  ∀ H' zs, Kp d H H' → DI d l H' → (zs.length : Int) = n → (∀ c ∈ zs, c ∈ cs) → Q (sV zs) H'
/-- texts of one sign each -/
def One (cs zs : List Nat) : Prop := ∃ c, zs = [c] ∧ c ∈ cs
theorem one_flat {cs : List Nat} : ∀ {zss : List (List Nat)}, (∀ z ∈ zss, One cs z) → zss.flatten.length = zss.length ∧ ∀ c ∈ zss.flatten, c ∈ cs
  | [], _ => ⟨rfl, fun _ h => nomatch h⟩
  | z :: r, h => by
    obtain ⟨c, rfl, hc⟩ := h z List.mem_cons_self
    have ⟨a, b⟩ := one_flat (zss := r) fun y hy => h y (List.mem_cons_of_mem _ hy)
    rw [List.flatten_cons]
    refine ⟨by rw [List.length_append, a]; show 1 + r.length = r.length + 1; omega, fun x hx => ?_⟩
    rcases List.mem_append.mp hx with e | e
    · rw [List.mem_singleton.mp e]; exact hc
    · exact b x e
theorem pick_one {d l : Addr} {cs : List Nat} {H : Hp} {Q : VK} (hD : DI d l H) (h0 : 0 < cs.length) (hx : cs.length ≤ 1000) (q : ∀ H' zs, Kp d H H' → DI d l H' → One cs zs → Q (sV zs) H') : spPick K [.ref d, sV cs] H Q E0 := by
  refine ⟨d, l, _, _, rfl, hD, .inr ⟨cs, rfl, rfl⟩, by rw [List.length_map]; exact h0, by rw [List.length_map]; exact hx, fun H' v k D' hv => ?_⟩
  obtain ⟨c, hc, rfl⟩ := List.mem_map.mp hv
  exact q H' _ k D' ⟨c, rfl, hc⟩
def spWord : Sp := fun vs H Q _ => ∃ (d l : Addr) (lo hi : Int), vs = [.ref d, .int lo, .int hi] ∧ DI d l H ∧ 0 ≤ lo ∧ lo ≤ hi ∧ hi ≤ 900 ∧
  ∀ H' zs, Kp d H H' → DI d l H' → lo ≤ (zs.length : Int) → (zs.length : Int) ≤ hi → (∀ c ∈ zs, cW c = true) → Q (sV zs) H'
end
end Vf

set_option Elab.async false
set_option linter.all false
set_option maxRecDepth 100000
set_option maxHeartbeats 4000000
namespace Vf
open PySem PySem.Spec PyProof.Rows L2
/-! ### set comprehensions of ints -/
/-- y is put into the set at D that is being made -/
def AddI (w : World) (D : Addr) (y : V) (H : Hp) (N : Hp → Prop) : Prop :=
  ∃ (k : Int) (S : Int → Bool) (n : Nat), y = .int k ∧ H D = some (SetO w D S n) ∧ n + 1 < scanBound ∧ N (upd H D (SetO w D (fun j => S j || decide (j = k)) (if S k = true then n else n + 1)))
theorem add_runs {Y : Cx} {ps : List (Addr × Obj)} {τ : L2.St} {H : Hp} {t : Shared} {D : Addr} {y : V} {u : Value} {N : Hp → Prop} {F : Value → Shared → Prop} {R : Value → Shared → Prop} (I : Inv Y ps τ H t) (ky : RelV y u) (h : AddI Y.w D y H N)
    (go : ∀ t' H', Inv Y ps τ H' t' → N H' → R .none t') :
    wpAny (model Y.prog Y.w) Y.A (call (.builtin "set.add") [.ref D, u]) R F t := by
  obtain ⟨k, S, n, ey, eD, room, hN⟩ := h
  subst ey
  obtain ⟨tk, rfl⟩ := ky
  refine setR_add (setO_get I eD) room fun h' same r => ?_
  have he : ∃ x, h'.get? D = some x := by
    obtain ⟨o, es, ep, tt, ho, rest⟩ := id r
    exact ⟨o, ho⟩
  exact go _ _ (I.write (e := D) (t' := t.toks + 1) (by rw [eD]; trivial) (.inl rfl) (fun b x hb hx => (same.2 b hb).trans hx) he (setO_new r)) hN
section
variable {X : Cx}
/-- {e for target in iter if ..}, e an int: D the new set -/
def tScI (w : World) (wi : TI) (g : TG) (tt : TT) (tk : TE) (own : List Nat) : TE := fun σ H Q => wi σ H fun J Ha => ∀ D, Ha D = none →
  ∃ W : Nat → Nat → Hp → Prop, (∃ m, W 0 m (upd Ha D (SetO w D (fun _ => false) 0))) ∧ ∀ i m Hb, W i m Hb → (J.stop i Hb ∧ Q (.ref D) Hb) ∨
    (J.go i Hb ∧ ∃ N : Hp → Prop, (∀ Hc, N Hc → ∃ m', m' < m ∧ W (i + 1) m' Hc) ∧ ∀ x Hc, J.yld i Hb x Hc →
      g x (wipe σ own) Hc fun σ2 H2 => wipe σ2 own = wipe σ own ∧ tt σ2 H2 fun b H3 => if b = true then tk σ2 H3 fun y H4 => AddI w D y H4 N else N H3)
/-- the block's promise of each part, wherever the block's own room comes to stand -/
abbrev InBlk (X : Cx) (scope : Scope) (R : Cx → Prop) : Prop := ∀ (s : Shared) (H : Hp) (C : Addr) (cl : List (Str × Addr)) (fp : List Addr), R (X.blk s H scope (compEnvC scope cl C X.env) fp)
theorem scI_core {pins : List (Addr × Obj)} {s : Shared} {σ : L2.St} {H : Hp} {Q : VK} {kx tg iter : Expr} {ifs : List Expr} {scope : Scope} {own : List (Str × Nat)} {pos pos' : Pos} {wi : TI} {g : TG} {tt : TT} {tk : TE} {use : Option (Value → Sem Unit)} {Qf : Value → Shared → Prop}
    (calm : X.calm = true) (nd : X.N.Nodup) (I : Inv X pins σ H s) (pi : PI X tg iter wi) (bk : BlkOk X.N X.env.scope scope own)
    (pg : InBlk X scope fun Y => PG Y tg g) (pt : InBlk X scope fun Y => PTs Y ifs tt) (pk : InBlk X scope fun Y => PE Y kx tk) (fold : ∀ x, foldedSetIterable iter X.env x = pure x)
    (h : tScI X.w wi g tt tk (own.map (·.2)) σ H Q)
    (leave : ∀ (D C : Addr) t ms H', Inv X pins σ H' t → Q (.ref D) H' → t.heap.Ns C ms → FpOk X pins H' C → compPost (model X.prog X.w) X.A X.xe use Qf (.ref D) C (.ok .next) t) :
    wpAny (model X.prog X.w) X.A (comprehension (.SetComp kx [⟨tg, iter, ifs, 0⟩] scope pos) scope X.env pos' (newSet (.type "set")) false (eval iter X.env) use) Qf X.xe s := by
  have has : ∀ y ∈ scope.names, y.2 = .free → ∃ c, X.env.cells.lookup y.1 = some c := by
    intro y hy e
    exact (bk.free y hy e).elim (fun k => I.ok.has _ (.inl k)) (fun k => I.ok.has _ (.inr k))
  refine wpAny_comprehension_free (use := use) rfl fold (closure_ok has) bk.kind (fun y hy e => (bk.uniq y hy).trans (congrArg some e)) ?_
  refine thn (pi.run pins s σ H _ I h) fun v0 s1 w1 => thn w1 fun v1 s2 w2 => ?_
  obtain ⟨it, fp, tn, J, Ha, rfl, Ia, T, st, fs, q⟩ := w2
  refine PpSet.newSet_ok (newEnv_comp ?_)
  -- the new set stands at D
  obtain ⟨D, eD⟩ : ∃ D, D = s2.heap.objs.size := ⟨_, rfl⟩
  obtain ⟨W, ⟨m0, w0⟩, turn⟩ := q D (Ia.hok.fresh (Nat.le_of_eq eD.symm))
  obtain ⟨s3, es3⟩ : ∃ s3 : Shared, s3 = { s2 with heap := s2.heap.push { cls := .type "set", dict := none, data := .set #[] 0 (.fresh 0 0 (!X.w.params.followText "set-order")) } } := ⟨_, rfl⟩
  have eh : s3.heap = s2.heap.push { cls := .type "set", dict := none, data := .set #[] 0 (.fresh 0 0 (!X.w.params.followText "set-order")) } := by rw [es3]
  rw [← es3, ← eD]
  have Ib : Inv X pins σ (upd Ha D (SetO X.w D (fun _ => false) 0)) s3 := by
    rw [es3, eD]
    exact Ia.laid (t' := s2.toks) (fun b o e => Heap.get?_push_of_some _ e) (Nat.le_refl _) (setO_new (setR_fresh X.w))
  have lt : ∀ b ∈ fp, b < D := fun b hb => by
    have ⟨o, e, _⟩ := T.obj _ _ st b hb
    rw [eD]; exact Heap.lt_size e
  have fd : ∀ b ∈ fp, (upd Ha D (SetO X.w D (fun _ => false) 0)) b = none := fun b hb => (upd_ne (Nat.ne_of_lt (lt b hb))).trans (fs b hb).1
  have f3 : ∀ b ∈ fp, FpOk X pins (upd Ha D (SetO X.w D (fun _ => false) 0)) b ∧ b < s3.heap.objs.size := fun b hb =>
    ⟨⟨fd b hb, (fs b hb).2⟩, by rw [eh, Heap.size_push, ← eD]; exact Nat.lt_succ_of_lt (lt b hb)⟩
  have st3 : tn 0 s3.heap := T.keep _ _ _ st fun b _ o e => by rw [eh]; exact Heap.get?_push_of_some _ e
  have Ic := block_start Ib bk nd f3
  have G := pg s3 (upd Ha D (SetO X.w D (fun _ => false) 0)) s3.heap.objs.size (cellsFrom (s3.heap.objs.size + 1) scope.names (cloFrom X.env.cells scope.names [])) fp
  have S := pt s3 (upd Ha D (SetO X.w D (fun _ => false) 0)) s3.heap.objs.size (cellsFrom (s3.heap.objs.size + 1) scope.names (cloFrom X.env.cells scope.names [])) fp
  have Kx := pk s3 (upd Ha D (SetO X.w D (fun _ => false) 0)) s3.heap.objs.size (cellsFrom (s3.heap.objs.size + 1) scope.names (cloFrom X.env.cells scope.names [])) fp
  obtain ⟨ce, ece⟩ : ∃ ce, ce = compEnvC scope (cellsFrom (s3.heap.objs.size + 1) scope.names (cloFrom X.env.cells scope.names [])) s3.heap.objs.size X.env := ⟨_, rfl⟩
  have cl : ce.locals = s3.heap.objs.size := by rw [ece]; rfl
  obtain ⟨s4, es4⟩ : ∃ s4 : Shared, s4 = { s3 with heap := pushCells (s3.heap.push { cls := .type "dict", data := .dict #[] }) scope.names } := ⟨_, rfl⟩
  rw [← ece] at Ic G S Kx
  rw [← es4] at Ic
  have st4 : tn 0 s4.heap := T.keep _ _ _ st3 fun b _ o e => by rw [es4]; exact pushCells_keeps _ _ _ _ (Heap.get?_push_of_some _ e)
  have pinned : ∀ {τ : L2.St} {H' : Hp} {t : Shared}, Inv (X.blk s3 (upd Ha D (SetO X.w D (fun _ => false) 0)) scope ce fp) [] τ H' t → (∀ b ∈ fp, H' b = none) → ∀ b ∈ fp, FpOk (X.blk s3 (upd Ha D (SetO X.w D (fun _ => false) 0)) scope ce fp) [] H' b := by
    intro τ H' t I' free b hb
    have e1 := I'.ok.exf b hb
    exact ⟨free b hb, e1.1, I'.ok.exfs b hb, .inl hb, fun x c e => e1.2 x c e, fun p hp => by cases hp⟩
  -- what the loop keeps at its turn number i
  let Keep : Nat → Shared → Prop := fun n t => ∃ i H', Inv (X.blk s3 (upd Ha D (SetO X.w D (fun _ => false) 0)) scope ce fp) [] (wipe σ (own.map (·.2))) H' t ∧ tn i t.heap ∧ (∀ b ∈ fp, H' b = none) ∧ W i n H'
  have runs : codeAny (model X.prog X.w) X.A (.compLoop (.SetComp kx [⟨tg, iter, ifs, 0⟩] scope pos) 0 (.ref it) (.ref D) ce)
      (compPost (model X.prog X.w) X.A X.xe use Qf (.ref D) s3.heap.objs.size) s4 := by
    refine PpSet.compLoopS_any Keep ?_ m0 ⟨0, _, Ic, st4, fd, w0⟩
    intro n t1 ⟨i, Hb, I1, z1, free, w1⟩
    rcases turn i n Hb w1 with ⟨stop, hQ⟩ | ⟨go, N, less, step⟩
    · -- no further thing: back in the def
      refine thnF (T.done (X.blk s3 (upd Ha D (SetO X.w D (fun _ => false) 0)) scope ce fp) rfl rfl rfl calm i [] t1 _ Hb (fun _ _ => False) I1 (pinned I1 free) z1 stop) fun r t2 ⟨er, I2⟩ => ?_
      subst er
      have Iz : Inv X pins σ Hb t2 := Ib.call' (ch := fp) I2.os I2.base I2.hok I2.bare fun b hb =>
        have f := (f3 b hb).1.2
        ⟨f.2.2.1, f.1, f.2.2.2.1, f.2.2.2.2⟩
      obtain ⟨ms, hns, _⟩ := I2.loc
      have hns : t2.heap.Ns ce.locals ms := hns
      have nl : Hb ce.locals = none := I2.free
      rw [cl] at hns nl
      exact leave D _ t2 ms Hb Iz hQ hns (Ib.fpOk (Nat.le_refl _) nl)
    · refine thnF (T.item (X.blk s3 (upd Ha D (SetO X.w D (fun _ => false) 0)) scope ce fp) rfl rfl rfl calm i [] t1 _ Hb (fun _ _ => False) I1 (pinned I1 free) z1 go) fun r t2 ⟨u, er, a2⟩ => ?_
      subst er
      refine thnF a2 fun _ t3 ⟨x, Hc, I3, rx, y3, z3, free3⟩ => ?_
      refine thnF (G.run _ t3 _ Hc x u _ (I3.pinned (pinned I3 free3) (T.obj _ _ z3)) rx (step x Hc y3)) fun _ t4 ⟨σ2, H2, I4, ew, q4⟩ => ?_
      refine thnF (S.run _ t4 σ2 H2 _ I4 q4) fun b t5 ⟨H3, I5, q5⟩ => ?_
      -- how a turn ends, in the room of the block
      have close : ∀ {t : Shared} {H' : Hp}, Inv (X.blk s3 (upd Ha D (SetO X.w D (fun _ => false) 0)) scope ce fp) ([] ++ pinsAt fp t3.heap) σ2 H' t → N H' → ∃ m, m < n ∧ Keep m t := by
        intro t H' I' hN
        obtain ⟨m', hm, w'⟩ := less H' hN
        have still : ∀ b ∈ fp, ∀ o, t3.heap.get? b = some o → t.heap.get? b = some o ∧ H' b = none := by
          intro b hb o e
          have p := I'.pin (b, o) (List.mem_append_right _ (List.mem_append_right _ (mem_pinsAt hb e)))
          exact ⟨p.1, p.2.1⟩
        have len : (wipe σ (own.map (·.2))).length = σ2.length := by rw [← ew]; exact wipe_length _ _
        refine ⟨m', hm, i + 1, H', (I'.unpinned (pins := [])).weak len fun j v e => ?_, T.keep _ _ _ z3 fun b hb o e => (still b hb o e).1, fun b hb => ?_, w'⟩
        · rw [← ew] at e; exact (wipe_some e).1
        · have ⟨o, e, _⟩ := T.obj _ _ z3 b hb
          exact (still b hb o e).2
      cases b with
      | false => exact close I5 q5
      | true =>
        refine thnF (Kx.run _ t5 σ2 H3 _ I5 q5) fun ku t6 ⟨y, H4, I6, ry, q6⟩ => ?_
        exact add_runs (Y := X.blk s3 (upd Ha D (SetO X.w D (fun _ => false) 0)) scope ce fp) I6 ry q6 fun t8 H6 I8 n8 => close I8 n8
  have whole := PpSet.codeAny_compStart_set runs (T.self X.A 0 _ _ _ st4 runs)
  rw [ece, es4] at whole
  exact whole
/-- as a value -/
theorem pe_scI {kx tg iter : Expr} {ifs : List Expr} {scope : Scope} {own : List (Str × Nat)} {pos : Pos} {wi : TI} {g : TG} {tt : TT} {tk : TE} (calm : X.calm = true) (nd : X.N.Nodup) (pi : PI X tg iter wi) (bk : BlkOk X.N X.env.scope scope own)
    (pg : InBlk X scope fun Y => PG Y tg g) (pt : InBlk X scope fun Y => PTs Y ifs tt) (pk : InBlk X scope fun Y => PE Y kx tk) (fold : ∀ x, foldedSetIterable iter X.env x = pure x := by intro _; rfl) :
    PE X (.SetComp kx [⟨tg, iter, ifs, 0⟩] scope pos) (tScI X.w wi g tt tk (own.map (·.2))) := by
  constructor
  intro pins s σ H Q I h
  rw [PpSet.eval_SetComp]
  refine scI_core calm nd I pi bk pg pt pk fold h fun D C t ms H' I' hQ hns f => ⟨ms, hns, fun h2 sb => ?_⟩
  exact ⟨.ref D, H', I'.turned (t' := t.toks) (fun b o hb e => (sb.2 b hb).trans e) f.1 f.2.1 f.2.2.2.1 f.2.2.2.2.1 f.2.2.2.2.2, rfl, hQ⟩
end
/-- over any walk: Pv by the turn and the heap -/
theorem scI_it {ww : World} {J : It} {n : Nat} {G : Hp → Prop} {Y : Nat → Hp → V → Hp → Prop} (w : Walk J n G Y) {g : TG} {tt : TT} {tk : TE} {own : List Nat} {σ : L2.St} {Ha : Hp} {D : Addr} {Qd : Hp → Prop} (Pv : Nat → Hp → Prop) (start : Pv 0 (upd Ha D (SetO ww D (fun _ => false) 0))) (stays : ∀ i H, i ≤ n → Pv i H → G H)
    (turn : ∀ i x H H', i < n → Pv i H → Y i H x H' → g x (wipe σ own) H' fun σ2 H2 => wipe σ2 own = wipe σ own ∧ tt σ2 H2 fun b H3 => if b = true then tk σ2 H3 fun y H4 => AddI ww D y H4 (Pv (i + 1)) else Pv (i + 1) H3)
    (after : ∀ H, Pv n H → Qd H) :
    ∃ W : Nat → Nat → Hp → Prop, (∃ m, W 0 m (upd Ha D (SetO ww D (fun _ => false) 0))) ∧ ∀ i m Hb, W i m Hb → (J.stop i Hb ∧ Qd Hb) ∨
      (J.go i Hb ∧ ∃ N : Hp → Prop, (∀ Hc, N Hc → ∃ m', m' < m ∧ W (i + 1) m' Hc) ∧ ∀ x Hc, J.yld i Hb x Hc →
        g x (wipe σ own) Hc fun σ2 H2 => wipe σ2 own = wipe σ own ∧ tt σ2 H2 fun b H3 => if b = true then tk σ2 H3 fun y H4 => AddI ww D y H4 N else N H3) := by
  refine ⟨fun i m H => m + i = n ∧ Pv i H, ⟨n, by omega, start⟩, fun i m Hb h => ?_⟩
  have ⟨e, p⟩ := h
  have ok := stays i Hb (by omega) p
  rcases Nat.lt_or_ge i n with lt | ge
  · refine .inr ⟨w.goes i Hb lt ok, Pv (i + 1), fun Hc q => ⟨m - 1, by omega, by omega, q⟩, fun x Hc y => turn i x Hb Hc lt p (w.yields i Hb x Hc lt ok y)⟩
  · obtain rfl : i = n := by omega
    exact .inl ⟨w.stops Hb ok, after Hb p⟩
end Vf

set_option Elab.async false
set_option linter.all false
set_option maxRecDepth 100000
set_option maxHeartbeats 4000000
namespace Vf
open PySem PySem.Spec PyProof.Rows L2 TL
/-! ### rows of things, nets -/
def nV (w : Nat) : V := .int (w : Int)
def oV : Option Int → V
  | none => .non
  | some x => .int x
theorem oV_inj : ∀ {a b : Option Int}, oV a = oV b → a = b
  | none, none, _ => rfl
  | some _, some _, h => by rw [V.int.inj h]
  | none, some _, h => by cases h
  | some _, none, h => by cases h
theorem szN {n : Nat} (h : n < 100000) : n < sizeLine := Nat.lt_of_lt_of_le h (by decide)
theorem bTr {p : Prop} [Decidable p] (h : p) : V.bl (decide p) = V.bl true := by rw [decide_eq_true h]
theorem bFa {p : Prop} [Decidable p] (h : ¬ p) : V.bl (decide p) = V.bl false := by rw [decide_eq_false h]
theorem bNT {p : Prop} [Decidable p] (h : p) : V.bl (!decide p) = V.bl false := by rw [decide_eq_true h]; rfl
theorem bNF {p : Prop} [Decidable p] (h : ¬ p) : V.bl (!decide p) = V.bl true := by rw [decide_eq_false h]; rfl
/-- what stands in a list or tuple, thing by thing -/
def LV {α : Type} (R : V → α → Prop) (vs : List V) (rs : List α) : Prop := vs.length = rs.length ∧ ∀ (i : Nat) (r : α), rs[i]? = some r → ∃ x, vs[i]? = some x ∧ R x r
theorem LV.nil {α : Type} {R : V → α → Prop} : LV R [] [] := ⟨rfl, fun i r h => by cases i <;> cases h⟩
theorem LV.mono {α : Type} {R R' : V → α → Prop} {vs : List V} {rs : List α} (h : LV R vs rs) (k : ∀ x r, R x r → R' x r) : LV R' vs rs := ⟨h.1, fun i r e => by
  obtain ⟨x, e1, e2⟩ := h.2 i r e
  exact ⟨x, e1, k _ _ e2⟩⟩
theorem LV.snoc {α : Type} {R : V → α → Prop} {vs : List V} {rs : List α} {x : V} {r : α} (h : LV R vs rs) (hx : R x r) : LV R (vs ++ [x]) (rs ++ [r]) := by
  refine ⟨by rw [List.length_append, List.length_append, h.1]; rfl, fun i q e => ?_⟩
  by_cases hi : i < rs.length
  · rw [List.getElem?_append_left hi] at e
    obtain ⟨y, e1, e2⟩ := h.2 i q e
    exact ⟨y, by rw [List.getElem?_append_left (by rw [h.1]; exact hi)]; exact e1, e2⟩
  · rw [List.getElem?_append_right (by omega)] at e
    have e0 : i - rs.length = 0 := by
      have := (List.getElem?_eq_some_iff.mp e).1
      simp at this
      exact this
    rw [e0] at e
    have e : r = q := Option.some.inj e
    subst e
    exact ⟨x, by rw [List.getElem?_append_right (by rw [h.1]; omega), h.1, e0]; rfl, hx⟩
theorem LV.at {α : Type} {R : V → α → Prop} {vs : List V} {rs : List α} {i : Nat} {x : V} (h : LV R vs rs) (e : vs[i]? = some x) : ∃ r, rs[i]? = some r ∧ R x r := by
  have hi : i < rs.length := by rw [← h.1]; exact (List.getElem?_eq_some_iff.mp e).1
  obtain ⟨y, e1, e2⟩ := h.2 i _ (List.getElem?_eq_getElem hi)
  rw [e] at e1
  have := Option.some.inj e1
  subst this
  exact ⟨_, List.getElem?_eq_getElem hi, e2⟩
abbrev Arc := Nat × Nat × Nat
def ArcV (H : Hp) (x : V) (r : Arc) : Prop := ∃ b, x = .ref b ∧ H b = some (.tup [nV r.1, nV r.2.1, nV r.2.2])
theorem ArcV.mono {H H' : Hp} {x : V} {r : Arc} (h : ArcV H x r) (k : ∀ a xs, H a = some (.tup xs) → H' a = some (.tup xs)) : ArcV H' x r := by
  obtain ⟨b, e, f⟩ := h
  exact ⟨b, e, k _ _ f⟩
theorem kpTup {d l : Addr} {H H' : Hp} (D : DI d l H) (k : Kp d H H') : ∀ a xs, H a = some (.tup xs) → H' a = some (.tup xs) := fun a xs e => by
  obtain ⟨n, ⟨ns, h1⟩, i, b, s, c, h0, h2⟩ := D
  exact k _ _ (fun z => by rw [z, h2] at e; cases e) e
end Vf

set_option Elab.async false
set_option linter.all false
set_option maxRecDepth 100000
set_option maxHeartbeats 4000000
namespace Vf
open PySem PySem.Spec PyProof.Rows L2 TL
/-! ### data made of tuples -/
/-- all tuples stand -/
def TK (H H' : Hp) : Prop := ∀ a xs, H a = some (.tup xs) → H' a = some (.tup xs)
theorem TK.refl (H : Hp) : TK H H := fun _ _ h => h
theorem TK.trans {H H1 H2 : Hp} (a : TK H H1) (b : TK H1 H2) : TK H H2 := fun x xs h => b x xs (a x xs h)
theorem TK.kp {d l : Addr} {H H' : Hp} (D : DI d l H) (k : Kp d H H') : TK H H' := kpTup D k
theorem TK.same {H H' : Hp} (k : Same H H') : TK H H' := fun a xs e => k _ _ e
theorem TK.new {H H' : Hp} {p : Addr} {o : HO} (k : TK H H') (hp : H' p = none) : TK H (upd H' p o) := fun a xs e => by
  have e := k _ _ e
  rw [upd_ne (ne_of_none e hp)]; exact e
theorem TK.mut {H H' : Hp} {p : Addr} {us : List V} {o : HO} (k : TK H H') (hp : H' p = some (.lst us)) : TK H (upd H' p o) := fun a xs e => by
  have e := k _ _ e
  have n : a ≠ p := fun z => by rw [z, hp] at e; cases e
  rw [upd_ne n]; exact e
/-- a relation of things that holds on while all tuples stand -/
structure Mn {α : Type} (R : Hp → V → α → Prop) : Prop where
  to : ∀ {H H' : Hp} {v : V} {x : α}, R H v x → TK H H' → R H' v x
def natR : Hp → V → Nat → Prop := fun _ v n => v = nV n
theorem nV_inj {a b : Nat} (h : nV a = nV b) : a = b := by
  have := V.int.inj h
  omega
theorem natR_mn : Mn natR := ⟨fun h _ => h⟩
def TupR {α : Type} (R : Hp → V → α → Prop) (H : Hp) (v : V) (xs : List α) : Prop := ∃ a us, v = .ref a ∧ H a = some (.tup us) ∧ LV (R H) us xs
theorem TupR.mn {α : Type} {R : Hp → V → α → Prop} (m : Mn R) : Mn (TupR R) := ⟨fun h k => by
  obtain ⟨a, us, e, h1, h2⟩ := h
  exact ⟨a, us, e, k _ _ h1, h2.mono fun _ _ z => m.to z k⟩⟩
def PairR {α β : Type} (R : Hp → V → α → Prop) (S : Hp → V → β → Prop) (H : Hp) (v : V) (p : α × β) : Prop := ∃ a u w, v = .ref a ∧ H a = some (.tup [u, w]) ∧ R H u p.1 ∧ S H w p.2
theorem PairR.mn {α β : Type} {R : Hp → V → α → Prop} {S : Hp → V → β → Prop} (m : Mn R) (n : Mn S) : Mn (PairR R S) := ⟨fun h k => by
  obtain ⟨a, u, w, e, h1, h2, h3⟩ := h
  exact ⟨a, u, w, e, k _ _ h1, m.to h2 k, n.to h3 k⟩⟩
theorem LV.nats : ∀ {us : List V} {xs : List Nat}, LV (natR H) us xs → us = xs.map nV := by
  intro us xs h
  refine List.ext_getElem? fun i => ?_
  rw [List.getElem?_map]
  by_cases hi : i < xs.length
  · obtain ⟨x, e, r⟩ := h.2 i _ (List.getElem?_eq_getElem hi)
    rw [e, List.getElem?_eq_getElem hi, show x = nV xs[i] from r]; rfl
  · rw [List.getElem?_eq_none (by rw [h.1]; omega), List.getElem?_eq_none (by omega)]; rfl
theorem LV.of_nats (H : Hp) (xs : List Nat) : LV (natR H) (xs.map nV) xs := ⟨List.length_map _, fun i r e => ⟨nV r, by rw [List.getElem?_map, e]; rfl, rfl⟩⟩
/-- a tuple of numbers -/
def NsR : Hp → V → List Nat → Prop := fun H v xs => ∃ a, v = .ref a ∧ H a = some (.tup (xs.map nV))
theorem NsR.mn : Mn NsR := ⟨fun h k => by
  obtain ⟨a, e, h⟩ := h
  exact ⟨a, e, k _ _ h⟩⟩
theorem NsR.of {H : Hp} {v : V} {xs : List Nat} (h : TupR natR H v xs) : NsR H v xs := by
  obtain ⟨a, us, e, h1, h2⟩ := h
  rw [h2.nats] at h1
  exact ⟨a, e, h1⟩
theorem NsR.new {H : Hp} {p : Addr} {xs : List Nat} : NsR (upd H p (.tup (xs.map nV))) (.ref p) xs := ⟨p, rfl, upd_same⟩
theorem LV.get {α : Type} {R : V → α → Prop} {vs : List V} {rs : List α} {i : Nat} (h : LV R vs rs) (hi : i < rs.length) : ∃ x, vs[i]? = some x ∧ R x rs[i] := h.2 i _ (List.getElem?_eq_getElem hi)
theorem LV.get0 {α : Type} {R : V → α → Prop} {vs : List V} {rs : List α} {i : Nat} (d : α) (h : LV R vs rs) (hi : i < rs.length) : ∃ x, vs[i]? = some x ∧ R x (rs.getD i d) := by
  obtain ⟨x, e, r⟩ := h.get hi
  refine ⟨x, e, ?_⟩
  rw [List.getD_eq_getElem?_getD, List.getElem?_eq_getElem hi]; exact r
theorem LV.app2 {α : Type} {R : V → α → Prop} {us vs : List V} {rs ss : List α} (h : LV R us rs) (k : LV R vs ss) : LV R (us ++ vs) (rs ++ ss) := by
  refine ⟨by rw [List.length_append, List.length_append, h.1, k.1], fun i r e => ?_⟩
  by_cases hi : i < rs.length
  · rw [List.getElem?_append_left hi] at e
    obtain ⟨y, e1, e2⟩ := h.2 i r e
    exact ⟨y, by rw [List.getElem?_append_left (by rw [h.1]; exact hi)]; exact e1, e2⟩
  · rw [List.getElem?_append_right (by omega)] at e
    obtain ⟨y, e1, e2⟩ := k.2 _ r e
    exact ⟨y, by rw [List.getElem?_append_right (by rw [h.1]; omega), h.1]; exact e1, e2⟩
theorem nat_at {xs : List Nat} {i : Nat} (h : i < xs.length) : (xs.map nV)[i]? = some (nV (xs.getD i 0)) := by
  rw [List.getElem?_map, List.getD_eq_getElem?_getD, List.getElem?_eq_getElem h]; rfl
theorem getD_mem {α : Type} {xs : List α} {i : Nat} {d : α} (h : i < xs.length) : xs.getD i d ∈ xs := by
  rw [List.getD_eq_getElem?_getD, List.getElem?_eq_getElem h]; exact List.getElem_mem h
theorem getD_of {α : Type} {xs : List α} {i : Nat} {x d : α} (h : xs[i]? = some x) : xs.getD i d = x := by
  rw [List.getD_eq_getElem?_getD, h]; rfl
theorem take_one {α : Type} {xs : List α} {i : Nat} {x : α} (h : xs[i]? = some x) : xs.take (i + 1) = xs.take i ++ [x] := by
  rw [List.take_add_one, h]; rfl
theorem take_oneD {α : Type} {xs : List α} {i : Nat} (d : α) (h : i < xs.length) : xs.take (i + 1) = xs.take i ++ [xs.getD i d] := by
  rw [take_one (List.getElem?_eq_getElem h), List.getD_eq_getElem?_getD, List.getElem?_eq_getElem h]; rfl
theorem mem_at {α : Type} {xs : List α} {x : α} (h : x ∈ xs) : ∃ i, i < xs.length ∧ xs[i]? = some x := by
  obtain ⟨i, hi, e⟩ := List.mem_iff_getElem.mp h
  exact ⟨i, hi, by rw [List.getElem?_eq_getElem hi, e]⟩
theorem flat_nats (xs : List Nat) : (xs.map nV).all flatV = true := List.all_eq_true.mpr fun v hv => by
  obtain ⟨x, _, rfl⟩ := List.mem_map.mp hv
  rfl
theorem eqV_nat (x y : Nat) : eqV (nV y) (nV x) = decide (y = x) := by
  show eqV (.int (y : Int)) (.int (x : Int)) = _
  by_cases h : y = x
  · subst h; rw [decide_eq_true rfl]; simp [eqV]
  · rw [decide_eq_false h]
    have : ¬ (y : Int) = (x : Int) := by omega
    simp [eqV, this]
theorem inV_nats (x : Nat) (xs : List Nat) : inV (nV x) (xs.map nV) = decide (x ∈ xs) := by
  unfold inV
  rw [List.any_map]
  by_cases h : x ∈ xs
  · rw [decide_eq_true h]
    refine List.any_eq_true.mpr ⟨x, h, ?_⟩
    show eqV (nV x) (nV x) = true
    rw [eqV_nat]; exact decide_eq_true rfl
  · rw [decide_eq_false h]
    refine List.any_eq_false.mpr fun y hy => ?_
    show ¬ eqV (nV y) (nV x) = true
    rw [eqV_nat]
    exact fun z => h (of_decide_eq_true z ▸ hy)
/-! ### what is met, each thing once -/
def met : List Nat → List Nat := fun l => l.foldl (fun acc x => if x ∈ acc then acc else acc ++ [x]) []
theorem met_snoc (l : List Nat) (x : Nat) : met (l ++ [x]) = if x ∈ met l then met l else met l ++ [x] := by
  unfold met; rw [List.foldl_append]; rfl
theorem list_snoc {α : Type} {p : List α → Prop} (h0 : p []) (hs : ∀ l x, p l → p (l ++ [x])) : ∀ l, p l := by
  intro l
  have : ∀ n (l : List α), l.length = n → p l := by
    intro n
    induction n with
    | zero => intro l e; rw [List.length_eq_zero_iff.mp e]; exact h0
    | succ n ih =>
      intro l e
      have hne : l ≠ [] := fun z => by rw [z] at e; cases e
      rw [← List.dropLast_concat_getLast hne]
      exact hs _ _ (ih _ (by rw [List.length_dropLast, e]; rfl))
  exact this _ l rfl
theorem met_mem (l : List Nat) : ∀ x, x ∈ met l ↔ x ∈ l := by
  refine list_snoc (p := fun l => ∀ x, x ∈ met l ↔ x ∈ l) (fun x => Iff.rfl) (fun l y ih x => ?_) l
  rw [met_snoc, List.mem_append, List.mem_singleton]
  by_cases h : y ∈ met l
  · rw [if_pos h, ih]
    exact ⟨.inl, fun z => z.elim id fun e => e ▸ (ih y).mp h⟩
  · rw [if_neg h, List.mem_append, ih, List.mem_singleton]
theorem met_nodup (l : List Nat) : (met l).Nodup := by
  refine list_snoc (p := fun l => (met l).Nodup) List.nodup_nil (fun l y ih => ?_) l
  rw [met_snoc]
  by_cases h : y ∈ met l
  · rw [if_pos h]; exact ih
  · rw [if_neg h, List.nodup_append]
    exact ⟨ih, by simp, fun a ha b hb e => h (by rw [List.mem_singleton.mp hb] at e; exact e ▸ ha)⟩
theorem met_len (l : List Nat) : (met l).length ≤ l.length := by
  refine list_snoc (p := fun l => (met l).length ≤ l.length) (Nat.le_refl _) (fun l y ih => ?_) l
  rw [met_snoc, List.length_append]
  split
  · exact Nat.le_trans ih (Nat.le_add_right _ _)
  · rw [List.length_append]; exact Nat.add_le_add_right ih _
theorem perm_nodup {α : Type} [DecidableEq α] : ∀ {xs ys : List α}, xs.Nodup → ys.Nodup → (∀ x, x ∈ xs ↔ x ∈ ys) → xs.Perm ys
  | [], ys, _, _, h => by
    cases ys with
    | nil => exact .nil
    | cons y ys => exact absurd ((h y).mpr List.mem_cons_self) (by simp)
  | x :: xs, ys, hx, hy, h => by
    have ⟨nx, hx⟩ := List.nodup_cons.mp hx
    have mx := (h x).mp List.mem_cons_self
    refine (List.Perm.cons x (perm_nodup (ys := ys.erase x) hx (hy.erase x) fun z => ?_)).trans (List.perm_cons_erase mx).symm
    rw [hy.mem_erase_iff]
    constructor
    · intro hz
      exact ⟨fun e => nx (e ▸ hz), (h z).mp (List.mem_cons_of_mem _ hz)⟩
    · rintro ⟨ne, hz⟩
      exact (List.mem_cons.mp ((h z).mpr hz)).resolve_left ne
theorem sum_cast : ∀ xs : List Nat, (xs.map (fun x : Nat => (x : Int))).sum = ((xs.sum : Nat) : Int)
  | [] => rfl
  | x :: xs => by rw [List.map_cons, List.sum_cons, List.sum_cons, sum_cast xs]; omega
theorem map_nV (xs : List Nat) : xs.map nV = (xs.map (fun x : Nat => (x : Int))).map V.int := by
  rw [List.map_map]; rfl
theorem sum_perm {xs ys : List Nat} (h : xs.Perm ys) : xs.sum = ys.sum := by
  induction h with
  | nil => rfl
  | cons x _ ih => rw [List.sum_cons, List.sum_cons, ih]
  | swap x y l => simp only [List.sum_cons]; omega
  | trans _ _ a b => exact a.trans b
theorem nat_cmp (f : Int → Int → Bool) (x y : Nat) : V.bl (f (x : Int) (y : Int)) = V.bl (f (x : Int) (y : Int)) := rfl
theorem int_nats : ∀ {ns : List Int}, (∀ x ∈ ns, ∃ k : Nat, x = (k : Int)) → ∃ ms : List Nat, ns = ms.map fun x : Nat => (x : Int)
  | [], _ => ⟨[], rfl⟩
  | x :: ns, h => by
    obtain ⟨k, rfl⟩ := h x List.mem_cons_self
    obtain ⟨ms, rfl⟩ := int_nats (ns := ns) fun y hy => h y (List.mem_cons_of_mem _ hy)
    exact ⟨k :: ms, rfl⟩
theorem nodup_of_lt {ms : List Nat} (h : (ms.map fun x : Nat => (x : Int)).Pairwise (· < ·)) : ms.Nodup := by
  rw [List.pairwise_map] at h
  exact h.imp fun {a b} z e => by subst e; omega
theorem map_Vint (ms : List Nat) : (ms.map fun x : Nat => (x : Int)).map V.int = ms.map nV := by rw [List.map_map]; rfl
theorem Same.mn {α : Type} {R : Hp → V → α → Prop} (m : Mn R) {H H' : Hp} {v : V} {x : α} (h : R H v x) (k : Same H H') : R H' v x := m.to h (TK.same k)
end Vf

set_option Elab.async false
set_option linter.all false
set_option maxRecDepth 100000
set_option maxHeartbeats 4000000
namespace Vf
open PySem PySem.Spec PyProof.Rows L2 TL
/-- the scope of a comprehension within one whose def has the scope d -/
def rel2 (inner d : Scope) : Scope := { inner with
  names := inner.names.map fun nk =>
    match nk with
    | (y, kk) => if (kk == .free && d.kind == .function && d.names.lookup y == some .cell) then (y, .cell) else (y, kk) }
def rTupleOf (K : PySem.W.Frag) : List V → Hp → VK → Prop := fun args H Q =>
  ∃ p ys, args = [V.ref p] ∧ ((SqL K H p ys ∧ ∀ l : Addr, H l = none → Q (.ref l) (upd H l (.tup ys))) ∨
    (SqT K H p ys ∧ Q (.ref p) H))
def rListOf (K : PySem.W.Frag) : List V → Hp → VK → Prop := fun args H Q =>
  ∃ p ys, args = [V.ref p] ∧ (SqL K H p ys ∨ SqT K H p ys) ∧
    ∀ l : Addr, H l = none → Q (.ref l) (upd H l (.lst ys))
def tTru (K : PySem.W.Frag) (ta : TE) : TT := fun σ H Q => ta σ H fun x H' => ∃ k, TruV K x H' k ∧ Q k H'
theorem pt_tru {X : Cx} {K : PySem.W.Frag} {a : Expr} {ta : TE} (hK : X.K = K) (ha : PE X a ta) (he : ∀ whole, isTrue a X.env whole = (do let v ← whole; standAt a.pos; holding [v] (truthy v))) : PT X a (tTru K ta) := by
  subst hK
  exact pt_truth ha he
theorem pi_or {X : Cx} {tg iter : Expr} {wa wb : TI} (ha : PI X tg iter wa) (hb : PI X tg iter wb) : PI X tg iter (fun σ H R => wa σ H R ∨ wb σ H R) :=
  ⟨fun pins s σ H R I h => h.elim (ha.run pins s σ H R I) (hb.run pins s σ H R I)⟩
theorem hu65 {k : Nat} {A : Around} (r : Room k A) : A.units + 65 < cLine := by have := r.un; omega
/-! ### tuples of numbers as data -/
def dN (xs : List Nat) : PyData := .tuple (xs.map fun x : Nat => .int (x : Int))
theorem dp_nats {K : PySem.W.Frag} {H : Hp} : ∀ xs : List Nat, DpAll K H (xs.map nV) (xs.map fun x : Nat => .int (x : Int))
  | [] => .nil
  | x :: xs => .cons (.int (x : Int)) (dp_nats xs)
theorem dN_dp {K : PySem.W.Frag} {H : Hp} {v : V} {xs : List Nat} (h : NsR H v xs) : Dp K H v (dN xs) := by
  obtain ⟨a, rfl, e⟩ := h
  exact .tup (SqT.of e) (dp_nats xs)
theorem dNs_dp {K : PySem.W.Frag} {H : Hp} : ∀ {us : List V} {F : List (List Nat)}, LV (NsR H) us F → DpAll K H us (F.map dN)
  | [], [], _ => .nil
  | [], _ :: _, h => by have := h.1; cases this
  | _ :: _, [], h => by have := h.1; cases this
  | u :: us, f :: F, h => by
    obtain ⟨x, e, r⟩ := h.2 0 f rfl
    have e := Option.some.inj e
    subst e
    exact .cons (dN_dp r) (dNs_dp ⟨Nat.succ.inj h.1, fun i r e => h.2 (i + 1) r e⟩)
theorem nats_lay : ∀ xs : List Nat, PyData.canLayAll0 (xs.map fun x : Nat => .int (x : Int)) = true
  | [] => by simp [PyData.canLayAll0]
  | x :: xs => by simp [PyData.canLayAll0, PyData.canLay0, nats_lay xs]
theorem nats_depth : ∀ xs : List Nat, PyData.depthAll (xs.map fun x : Nat => .int (x : Int)) = 0
  | [] => by simp [PyData.depthAll]
  | x :: xs => by simp [PyData.depthAll, PyData.depth, nats_depth xs]
theorem dN_lay (xs : List Nat) : (dN xs).canLay0 = true := by
  unfold dN; simp only [PyData.canLay0]; exact nats_lay xs
theorem dN_depth (xs : List Nat) : (dN xs).depth = 1 := by
  unfold dN; simp only [PyData.depth, nats_depth]
theorem dNs_lay : ∀ F : List (List Nat), PyData.canLayAll0 (F.map dN) = true
  | [] => by simp [PyData.canLayAll0]
  | x :: xs => by simp [PyData.canLayAll0, dN_lay x, dNs_lay xs]
theorem dNs_depth : ∀ F : List (List Nat), PyData.depthAll (F.map dN) ≤ 1
  | [] => by simp [PyData.depthAll]
  | x :: xs => by
    have h1 := dNs_depth xs
    have h2 := dN_depth x
    simp only [List.map_cons, PyData.depthAll]
    omega
theorem dN_shaped (xs : List Nat) : SeqAt.shaped (dN xs) = true := Bool.and_eq_true_iff.mpr ⟨dN_lay xs, decide_eq_true (by rw [dN_depth]; decide)⟩
theorem dNs_shaped (F : List (List Nat)) : SeqAt.shaped (.list (F.map dN)) = true :=
  Bool.and_eq_true_iff.mpr ⟨by simp only [PyData.canLay0]; exact dNs_lay F, decide_eq_true (by simp only [PyData.depth]; have := dNs_depth F; omega)⟩
theorem nats_eqv : ∀ xs ys : List Nat, PyData.eqvAll (xs.map fun x : Nat => .int (x : Int)) (ys.map fun x : Nat => .int (x : Int)) = decide (xs = ys)
  | [], [] => by simp [PyData.eqvAll]
  | [], _ :: _ => by simp [PyData.eqvAll]
  | _ :: _, [] => by simp [PyData.eqvAll]
  | x :: xs, y :: ys => by
    simp only [List.map_cons, PyData.eqvAll, PyData.eqv, nats_eqv xs ys]
    by_cases h1 : x = y
    · subst h1
      by_cases h2 : xs = ys
      · subst h2; simp
      · simp [h2]
    · have : ¬ (x : Int) = (y : Int) := by omega
      simp [h1, this]
theorem dN_eqv (xs ys : List Nat) : PyData.eqv (dN xs) (dN ys) = decide (xs = ys) := by
  unfold dN; simp only [PyData.eqv]; exact nats_eqv xs ys
theorem dNs_any (F : List (List Nat)) (f : List Nat) : ((F.map dN).any fun z => PyData.eqv z (dN f)) = decide (f ∈ F) := by
  rw [List.any_map]
  by_cases h : f ∈ F
  · rw [decide_eq_true h]
    exact List.any_eq_true.mpr ⟨f, h, by show PyData.eqv (dN f) (dN f) = true; rw [dN_eqv]; exact decide_eq_true rfl⟩
  · rw [decide_eq_false h]
    refine List.any_eq_false.mpr fun y hy => ?_
    show ¬ PyData.eqv (dN y) (dN f) = true
    rw [dN_eqv]
    exact fun z => h (of_decide_eq_true z ▸ hy)
/-- sorted of a list of tuples of equally many small ints -/
def rSortX (K : PySem.W.Frag) : List V → Hp → VK → Prop := fun vs H Q => ∃ (d : Nat) (B : Int), 1 ≤ d ∧ rSortU K d B vs H Q
theorem cr_sortX {X : Cx} : CallR X (.builtin "sorted") (rSortX X.K) := by
  intro pins s σ H vs us Q I r h
  obtain ⟨d, B, hd, h⟩ := h
  exact cr_sortT hd pins s σ H vs us Q I r h
theorem LV.perm {α : Type} {R : V → α → Prop} {us ws : List V} (hp : us.Perm ws) : ∀ {rs : List α}, LV R ws rs → ∃ ss, LV R us ss ∧ ss.Perm rs := by
  induction hp with
  | nil =>
    intro rs h
    have : rs = [] := List.length_eq_zero_iff.mp h.1.symm
    subst this
    exact ⟨[], LV.nil, .nil⟩
  | @cons x l₁ l₂ _ ih =>
    intro rs h
    cases rs with
    | nil => have := h.1; cases this
    | cons r rs =>
      obtain ⟨y, e, hr⟩ := h.2 0 r rfl
      have e := Option.some.inj e
      subst e
      obtain ⟨ss, h1, h2⟩ := ih (rs := rs) ⟨Nat.succ.inj h.1, fun i r e => h.2 (i + 1) r e⟩
      refine ⟨r :: ss, ⟨by rw [List.length_cons, List.length_cons, h1.1], fun i q e => ?_⟩, h2.cons r⟩
      cases i with
      | zero => exact ⟨_, rfl, (Option.some.inj e) ▸ hr⟩
      | succ i => exact h1.2 i q e
  | swap x y l =>
    intro rs h
    match rs, h with
    | [], h => have := h.1; cases this
    | [_], h => have := h.1; cases this
    | r :: s :: rs, h =>
      obtain ⟨y1, e, hr⟩ := h.2 0 r rfl
      have e := Option.some.inj e
      subst e
      obtain ⟨y2, e, hs⟩ := h.2 1 s rfl
      have e := Option.some.inj e
      subst e
      refine ⟨s :: r :: rs, ⟨h.1, fun i q e => ?_⟩, .swap _ _ _⟩
      match i, e with
      | 0, e => exact ⟨_, rfl, (Option.some.inj e) ▸ hs⟩
      | 1, e => exact ⟨_, rfl, (Option.some.inj e) ▸ hr⟩
      | i + 2, e => exact h.2 (i + 2) q e
  | trans _ _ a b =>
    intro rs h
    obtain ⟨ss, h1, p1⟩ := b h
    obtain ⟨ts, h2, p2⟩ := a h1
    exact ⟨ts, h2, p2.trans p1⟩
theorem fdiv_nV (a b : Nat) : V.int ((a : Int).fdiv (b : Int)) = nV (a / b) := by
  rw [Int.fdiv_eq_ediv_of_nonneg _ (by omega)]; rfl
theorem fmod_nV (a b : Nat) : V.int ((a : Int).fmod (b : Int)) = nV (a % b) := by
  rw [Int.fmod_eq_emod_of_nonneg _ (by omega)]; rfl
theorem low_snoc {os S : List Nat} {j g : Nat} (lo : os.length = j) (ho : ∀ s, s < j → os.getD s 0 < S.getD s 0) (hg : g < S.getD j 0) : ∀ s, s < j + 1 → (os ++ [g]).getD s 0 < S.getD s 0 := fun s hs => by
  rcases Nat.lt_or_ge s j with h | h
  · rw [List.getD_eq_getElem?_getD, List.getElem?_append_left (by omega), ← List.getD_eq_getElem?_getD]; exact ho s h
  · have : s = j := by omega
    subst this
    rw [List.getD_eq_getElem?_getD, List.getElem?_append_right (by omega), lo, Nat.sub_self]; exact hg
theorem PE.to {X : Cx} {e : Expr} {t t' : TE} (h : PE X e t) (i : ∀ σ H Q, t' σ H Q → t σ H Q) : PE X e t' := ⟨fun pins s σ H Q I hq => h.run pins s σ H Q I (i σ H Q hq)⟩
theorem rgV_nats (n : Nat) : rgV 0 (n : Int) = (List.range n).map nV := by
  unfold rgV
  rw [show ((n : Int) - 0).toNat = n by omega]
  refine List.map_congr_left fun i _ => ?_
  rw [Int.zero_add]; rfl
theorem toNat_k {n : Nat} : ((n : Nat) : Int).toNat = n := Int.toNat_natCast n
theorem int0 (i : Nat) : V.int (0 + (i : Int)) = nV i := by rw [Int.zero_add]; rfl
theorem ixN_last {n : Nat} (h : 0 < n) : ixN n (-1) = some (n - 1) := by
  unfold ixN
  rw [if_neg (by decide), if_pos (by omega)]
  congr 1
  omega
theorem atI_l {α : Type} {xs : List α} {v : α} (h : xs[xs.length - 1]? = some v) : atI xs (-1) = some v := by
  have h0 : 0 < xs.length := by
    have := (List.getElem?_eq_some_iff.mp h).1
    omega
  unfold atI
  rw [ixN_last h0]
  exact h
def isN (lo hi : Nat) : V → Bool
  | .int g => decide ((lo : Int) ≤ g) && decide (g ≤ (hi : Int))
  | _ => false
theorem isN_of {lo hi : Nat} {v : V} (h : isN lo hi v = true) : ∃ m : Nat, v = nV m ∧ lo ≤ m ∧ m ≤ hi := by
  cases v with
  | int g =>
    have ⟨a, b⟩ := Bool.and_eq_true_iff.mp h
    have a := of_decide_eq_true a
    have b := of_decide_eq_true b
    exact ⟨g.toNat, by unfold nV; rw [Int.toNat_of_nonneg (by omega)], by omega, by omega⟩
  | _ => cases h
theorem none_kp {d : Addr} {H H' : Hp} {b : Addr} (k : Kp d H H') (n : b ≠ d) (h : H' b = none) : H b = none := by
  cases e : H b with
  | none => rfl
  | some o => rw [k _ _ n e] at h; cases h
theorem none_same {H H' : Hp} {b : Addr} (k : Same H H') (h : H' b = none) : H b = none := by
  cases e : H b with
  | none => rfl
  | some o => rw [k _ _ e] at h; cases h
theorem draw_nt {m r : Int} (h : 0 < m) (e1 : m < 2 → r = 0) (e2 : 2 ≤ m → 0 ≤ r ∧ r < m) : ∃ j : Nat, r = (j : Int) ∧ (j : Int) < m := by
  by_cases c : m < 2
  · exact ⟨0, e1 c, by omega⟩
  · have := e2 (by omega)
    exact ⟨r.toNat, by omega, by omega⟩
end Vf

set_option Elab.async false
set_option linter.all false
set_option maxRecDepth 100000
set_option maxHeartbeats 4000000
namespace Vf
open PySem PySem.Spec PyProof.Rows L2
/-! ### t[::-1] of a tuple -/
theorem adjust_rev (n : Nat) : Builtin.Slice.sliceAdjust none none (-1) (n : Int) = ((n : Int) - 1, -1) := by
  unfold Builtin.Slice.sliceAdjust
  simp
theorem places_rev (n : Nat) : Builtin.Slice.slicePlaces ((n : Int) - 1) (-1) (-1) = n := by
  unfold Builtin.Slice.slicePlaces
  have h1 : ¬ ((-1 : Int) > 0) := by decide
  simp only [h1, if_false]
  by_cases h : (n : Int) - 1 > -1
  · rw [if_pos h]
    have e : ((n : Int) - 1 - -1 - 1) / (- -1) + 1 = (n : Int) := by
      rw [show (- -1 : Int) = 1 by decide, Int.ediv_one]; omega
    rw [e]; exact Int.toNat_natCast n
  · rw [if_neg h]
    show 0 = n
    omega
theorem fmap_congr {α β : Type} {f g : α → Option β} : ∀ {l : List α}, (∀ x ∈ l, f x = g x) → l.filterMap f = l.filterMap g
  | [], _ => rfl
  | x :: l, h => by
    have e := h x List.mem_cons_self
    have ih := fmap_congr (l := l) fun y hy => h y (List.mem_cons_of_mem _ hy)
    simp only [List.filterMap_cons, e, ih]
theorem pick_rev (xs : Array Value) : ((List.range xs.size).filterMap fun (m : Nat) => xs[(((xs.size : Int) - 1) + (m : Int) * (-1)).toNat]?).toArray = xs.toList.reverse.toArray := by
  have h := PySem.W.krv_pick xs
  unfold slicePick at h
  rw [PySem.W.krv_bounds] at h
  have h : ((sliceRange ((xs.size : Int) - 1) (-1) (-1)).filterMap (xs[·]?)).toArray = xs.toList.reverse.toArray := h
  rw [PySem.W.krv_sliceRange, List.filterMap_map] at h
  rw [← h]
  refine congrArg List.toArray (fmap_congr fun m hm => ?_)
  have hm := List.mem_range.mp hm
  show xs[(((xs.size : Int) - 1) + (m : Int) * (-1)).toNat]? = xs[xs.size - 1 - m]?
  have : (((xs.size : Int) - 1) + (m : Int) * (-1)).toNat = xs.size - 1 - m := by omega
  rw [this]
section
variable {prog : Program} {w : World} {A : Around} {E : Value → Shared → Prop} {s : Shared}
theorem sliceApplied_rev {sl : Addr} {vs : Value} {n : Nat} {Q : Int × Int × Nat → Shared → Prop} (hs : s.heap.IsSliceOf sl .none .none vs) (ps : IsPart vs (some (-1))) (h : Q ((n : Int) - 1, -1, n) s) :
    wpAny (model prog w) A (Builtin.Slice.sliceApplied (.ref sl) (pure (n : Int))) Q E s := by
  obtain ⟨os, hos, hcs, hds⟩ := id hs
  unfold Builtin.Slice.sliceApplied Builtin.Slice.sliceFields
  refine wpAny_bind (wpAny_bind (wpAny_field hos hds (x := .none) rfl (wpAny_bind (wpAny_field hos hds (x := .none) rfl (wpAny_bind (wpAny_field hos hds (x := vs) rfl (wpAny_pure ?_)))))))
  refine wpAny_bind (HT.slicePart_ ps ?_)
  show wpAny _ _ (if ((-1 : Int) == 0) = true then _ else _) _ _ s
  rw [if_neg (by decide)]
  refine wpAny_bind (slicePart_none (wpAny_bind (slicePart_none (wpAny_bind (wpAny_pure ?_)))))
  show wpAny _ _ (match Builtin.Slice.sliceAdjust none none (-1) (n : Int) with | (lo, hi) => pure (lo, (-1 : Int), Builtin.Slice.slicePlaces lo hi (-1))) _ _ s
  rw [adjust_rev]
  show wpAny _ _ (pure ((n : Int) - 1, (-1 : Int), Builtin.Slice.slicePlaces ((n : Int) - 1) (-1) (-1))) _ _ s
  rw [places_rev]
  exact wpAny_pure h
theorem getItem_tuple_rev {t sl : Addr} {items : Array Value} {vs : Value} {Q : Value → Shared → Prop} (ht : IsTup s.heap t items) (hs : s.heap.IsSliceOf sl .none .none vs) (ps : IsPart vs (some (-1)))
    (h : Q (.ref s.heap.objs.size) { s with heap := s.heap.push { cls := .type "tuple", data := .seq items.toList.reverse.toArray } })
    (hsz : items.size ≤ sizeLine) : wpAny (model prog w) A (getItem (.ref t) (.ref sl)) Q E s := by
  have htake : sizeOk (.seq items.toList.reverse.toArray) := by
    show items.toList.reverse.toArray.size ≤ sizeLine
    rw [List.size_toArray, List.length_reverse, Array.length_toList]
    exact hsz
  obtain ⟨os, hos, hcs, hds⟩ := id hs
  have hTs : s.TypeIs (.ref sl) "slice" := ⟨os, hos, hcs⟩
  unfold getItem
  try with_reducible refine wpAny_holding ?_
  first | refine wpAny_bind (wpAny_pure ?_) | skip
  refine wpAny_bind (wpAny_sequenceKey ht.typeIs (by decide) ?_)
  refine wpAny_bind (wpAny_callSpecial?_slot (name := Str.ofString "__getitem__") ht.typeIs PyProof.Rows.slot_tuple_getitem
    (wpAny_call_entry PyProof.Rows.slot_tuple_getitem ht.typeIs PyProof.Rows.entry_tuple_getitem ?_ (PyProof.Rows.args_tuple_getitem _ _)))
  show wpAny _ _ (Builtin.Tuple.tupleItemsOf (.ref t) >>= _) _ _ s
  refine wpAny_bind (tupleItemsOf_ ht ?_)
  refine wpAny_bind (wpAny_typeOf hTs ?_)
  rw [if_pos (by decide)]
  refine wpAny_bind (sliceApplied_rev hs ps ?_)
  have hno : ¬ ((((items.size : Int) - 1) == 0 && (-1 : Int) == 1 && items.size == items.size) = true) := by
    intro q
    rw [Bool.and_eq_true, Bool.and_eq_true] at q
    exact absurd q.1.2 (by decide)
  show wpAny _ _ (if (((items.size : Int) - 1) == 0 && (-1 : Int) == 1 && items.size == items.size) = true then _ else _) _ _ s
  rw [if_neg hno, pick_rev]
  first
    | exact wpAny_bind (m := Builtin.Tuple.tupleExact _) (wpAny_newObj_type (wpAny_pure ⟨_, rfl, wpAny_pure h⟩) htake)
    | exact wpAny_bind (m := Builtin.Tuple.tupleExact _) (wpAny_newObj_type (wpAny_bind (wpAny_pure (wpAny_pure ⟨_, rfl, wpAny_pure h⟩))) htake)
    | exact wpAny_bind (wpAny_bind (m := Builtin.Tuple.tupleExact _) (wpAny_newObj_type (wpAny_pure (wpAny_pure ⟨_, rfl, wpAny_pure h⟩)) htake))
    | exact wpAny_bind (wpAny_bind (m := Builtin.Tuple.tupleExact _) (wpAny_newObj_type (wpAny_pure ⟨_, rfl, wpAny_pure h⟩) htake))
end
def tRevT (K : PySem.W.Frag) (te : TE) : TE := fun σ H Q => te σ H fun x H1 => ∃ a xs, x = .ref a ∧ SqT K H1 a xs ∧ ∀ p, H1 p = none → Q (.ref p) (upd H1 p (.tup xs.reverse))
theorem pe_revT {X : Cx} {e : Expr} {te : TE} {k : Nat} {p1 p2 p3 pos : Pos} (he : PE X e te) : PE X (.Subscript e (.Slice none none (some (.UnaryOp .USub (.Constant (.int 1) k p1) p2)) p3) pos) (tRevT X.K te) := by
  refine ⟨fun pins s σ H Q I h => ?_⟩
  refine Subscript_ (thn (he.run pins s σ H _ I h) fun v s1 ⟨x, H1, I1, r1, q1⟩ => ?_)
  obtain ⟨a, xs, ex, hx, q⟩ := q1
  subst ex
  cases r1
  have hst : PO X (some (.UnaryOp .USub (.Constant (.int 1) k p1) p2)) (tPart (tUn (rU fun i => .int (-i)) (tC (.int 1)))) := po_some (pe_un un_neg pe_int)
  refine wpAny_Slice (thn (po_none.run pins s1 σ H1 (fun o H2 => o = none ∧ H2 = H1) I1 ⟨rfl, rfl⟩) fun vl s2 ⟨l, H2, I2, pl, el, e2⟩ => ?_)
  subst el e2
  refine thn (po_none.run pins s2 σ H2 (fun o H3 => o = none ∧ H3 = H2) I2 ⟨rfl, rfl⟩) fun vu s3 ⟨u, H3, I3, pu, eu, e3⟩ => ?_
  subst eu e3
  refine thn (hst.run pins s3 σ H3 (fun o H4 => o = some (-1) ∧ H4 = H3) I3 ⟨1, rfl, -1, rfl, rfl, rfl⟩) fun vs s4 ⟨o, H4, I4, ps, eo, e4⟩ => ?_
  subst eo e4
  cases pl
  cases pu
  have I5 : Inv X pins σ H4 { s4 with heap := s4.heap.push { cls := .type "slice", data := .fields #[.none, .none, vs] } } := I4.kept (t' := s4.toks) fun b ob q => Heap.get?_push_of_some _ q
  obtain ⟨its, r, ht, hz⟩ := I5.tuple hx
  have hlen := r.length
  show wpAny (model X.prog X.w) X.A (subscriptTail e (.Slice none none (some (.UnaryOp .USub (.Constant (.int 1) k p1) p2)) p3) (.ref a) (.ref s4.heap.objs.size)) (EP X pins σ Q) X.xe { s4 with heap := s4.heap.push { cls := .type "slice", data := .fields #[.none, .none, vs] } }
  refine tail_any (ops := [.ref a, .ref s4.heap.objs.size]) ht.typeIs (PyProof.Rows.slot_tuple_getitem.lookup) ?_ (by with_unfolding_all rfl)
  refine getItem_tuple_rev ht (Heap.IsSliceOf.new _ .none .none vs) ps ?_ (by rw [List.size_toArray]; omega)
  refine ⟨.ref _, _, I5.laid (t' := s4.toks) (o := .tup xs.reverse) (fun b ob q => Heap.get?_push_of_some _ q) (Nat.le_refl _) ?_, rfl, q _ (I5.hok.fresh (Nat.le_refl _))⟩
  exact ⟨by rw [List.length_reverse]; exact hz, _, r.reverse, ⟨_, Heap.get?_push_size _ rfl, rfl, 0, rfl⟩⟩
end Vf

set_option Elab.async false
set_option linter.all false
set_option maxRecDepth 100000
set_option maxHeartbeats 4000000
namespace Vf
open PySem PySem.Spec PyProof.Rows L2 TL
/-! ### curtains: the mathematics -/
abbrev Rw := List Nat
abbrev Pg := List Rw
def wholeN (zs : Rw) : Rw := List.replicate zs.length 35
def hasC (zs : Rw) : Bool := decide (35 ∈ zs)
def blankN (zs : Rw) : Bool := decide (zs = List.replicate zs.length 32)
theorem blank_no {zs : Rw} (h : blankN zs = true) : hasC zs = false := by
  have h := of_decide_eq_true h
  refine decide_eq_false fun z => ?_
  rw [h] at z
  have := (List.mem_replicate.mp z).2
  omega
/-! wide -/
def nearB (n : Nat) (zs : Rw) (x : Nat) : Bool := (List.range zs.length).any fun y => decide (zs.getD y 0 = 35) && (decide (x ≤ y + n) && decide (y ≤ x + n))
def wideN (n : Nat) (zs : Rw) : Rw := (List.range zs.length).map fun x => if nearB n zs x = true then 35 else zs.getD x 0
theorem near_cut {n : Nat} {zs : Rw} {x : Nat} : nearB n zs x = true ↔ 35 ∈ (zs.drop (x - n)).take (x + n + 1 - (x - n)) := by
  constructor
  · intro h
    obtain ⟨y, hy, h⟩ := List.any_eq_true.mp h
    have hy := List.mem_range.mp hy
    rw [Bool.and_eq_true, Bool.and_eq_true] at h
    have h1 := of_decide_eq_true h.1
    have h2 := of_decide_eq_true h.2.1
    have h3 := of_decide_eq_true h.2.2
    refine List.mem_iff_getElem?.mpr ⟨y - (x - n), ?_⟩
    rw [List.getElem?_take, if_pos (by omega), List.getElem?_drop, show x - n + (y - (x - n)) = y by omega, List.getElem?_eq_getElem hy]
    rw [List.getD_eq_getElem?_getD, List.getElem?_eq_getElem hy] at h1
    exact congrArg some h1
  · intro h
    obtain ⟨i, h⟩ := List.mem_iff_getElem?.mp h
    rw [List.getElem?_take] at h
    split at h
    · next c =>
      rw [List.getElem?_drop] at h
      have hl := (List.getElem?_eq_some_iff.mp h).1
      refine List.any_eq_true.mpr ⟨x - n + i, List.mem_range.mpr hl, ?_⟩
      rw [List.getD_eq_getElem?_getD, h]
      rw [Bool.and_eq_true, Bool.and_eq_true]
      exact ⟨decide_eq_true rfl, decide_eq_true (by omega), decide_eq_true (by omega)⟩
    · cases h
/-! even -/
def evB (n r c : Nat) : Bool := decide (c = 35) || (decide (0 < r) && decide (r < n))
def evStep (n r c : Nat) : Nat := if evB n r c = true then (if r < n then r + 1 else 1) else 0
def evS (n : Nat) (zs : Rw) (x : Nat) : Nat := (zs.take x).foldl (evStep n) 0
theorem evS_succ {n : Nat} {zs : Rw} {x : Nat} (h : x < zs.length) : evS n zs (x + 1) = evStep n (evS n zs x) (zs.getD x 0) := by
  unfold evS
  rw [take_oneD 0 h, List.foldl_append]; rfl
def evenN (n : Nat) (zs : Rw) : Rw := (List.range zs.length).map fun x => if evB n (evS n zs x) (zs.getD x 0) = true then 35 else zs.getD x 0
theorem ev_le {n : Nat} (h : 1 ≤ n) (r c : Nat) : evStep n r c ≤ n := by
  unfold evStep
  split
  · split <;> omega
  · omega
def covG (G : List (Nat × Nat)) (y : Nat) : Bool := G.any fun g => decide (g.1 ≤ y) && decide (y < g.2)
theorem cov_snoc (G : List (Nat × Nat)) (f b y : Nat) : covG (G ++ [(f, b)]) y = (covG G y || (decide (f ≤ y) && decide (y < b))) := by
  unfold covG
  rw [List.any_append]
  simp
/-- the state behind x signs -/
structure GSt (n : Nat) (zs : Rw) (x : Nat) (G : List (Nat × Nat)) : Prop where
  cov : ∀ y, y < x → covG G y = evB n (evS n zs y) (zs.getD y 0)
  lt : ∀ g ∈ G, g.1 < g.2 ∧ g.2 ≤ zs.length
  len : G.length ≤ x
  last : (evS n zs x = 0 ∧ ∀ g ∈ G, g.2 < x) ∨ (∃ G0 f b, G = G0 ++ [(f, b)] ∧ (∀ g ∈ G0, g.2 < f) ∧ f < x ∧ 1 ≤ evS n zs x ∧ evS n zs x ≤ n ∧ (∃ k, x = f + k * n + evS n zs x) ∧ b = min zs.length (x + (n - evS n zs x)))
theorem GSt.zero (n : Nat) (zs : Rw) : GSt n zs 0 [] := ⟨fun y h => absurd h (Nat.not_lt_zero y), (fun _ h => nomatch h), Nat.le_refl _, .inl ⟨rfl, (fun _ h => nomatch h)⟩⟩
/-- a sign that is no cover: nothing happens to the intervals -/
theorem GSt.none {n : Nat} {zs : Rw} {x : Nat} {G : List (Nat × Nat)} (h : GSt n zs x G) (n1 : 1 ≤ n) (hx : x < zs.length) (c : zs.getD x 0 ≠ 35) : GSt n zs (x + 1) G := by
  have es := evS_succ (n := n) hx
  rcases h.last with ⟨h0, hb⟩ | ⟨G0, f, b, rfl, h0, fx, r1, rn, ⟨k, hk⟩, hb⟩
  · have e : evB n (evS n zs x) (zs.getD x 0) = false := by
      unfold evB; rw [h0, decide_eq_false c]; rfl
    have e2 : evS n zs (x + 1) = 0 := by rw [es]; unfold evStep; rw [if_neg (by rw [e]; decide)]
    refine ⟨fun y hy => ?_, h.lt, Nat.le_succ_of_le h.len, .inl ⟨e2, fun g hg => Nat.lt_succ_of_lt (hb g hg)⟩⟩
    by_cases z : y = x
    · subst z
      rw [e]
      refine List.any_eq_false.mpr fun g hg => ?_
      have := hb g hg
      rw [decide_eq_false (show ¬ y < g.2 by omega), Bool.and_false]; decide
    · exact h.cov y (by omega)
  · by_cases c2 : evS n zs x < n
    · have e : evB n (evS n zs x) (zs.getD x 0) = true := by
        unfold evB; rw [decide_eq_true c2, decide_eq_true (show 0 < evS n zs x by omega), Bool.and_self, Bool.or_true]
      have e2 : evS n zs (x + 1) = evS n zs x + 1 := by rw [es]; unfold evStep; rw [if_pos e, if_pos c2]
      refine ⟨fun y hy => ?_, h.lt, Nat.le_succ_of_le h.len, .inr ⟨G0, f, b, rfl, h0, by omega, by omega, by omega, ⟨k, by omega⟩, by omega⟩⟩
      by_cases z : y = x
      · subst z
        rw [e, cov_snoc, decide_eq_true (show f ≤ y by omega), decide_eq_true (show y < b by omega)]
        simp
      · exact h.cov y (by omega)
    · have e : evB n (evS n zs x) (zs.getD x 0) = false := by
        unfold evB; rw [decide_eq_false c, decide_eq_false c2]; simp
      have e2 : evS n zs (x + 1) = 0 := by rw [es]; unfold evStep; rw [if_neg (by rw [e]; decide)]
      refine ⟨fun y hy => ?_, h.lt, Nat.le_succ_of_le h.len, .inl ⟨e2, fun g hg => ?_⟩⟩
      · by_cases z : y = x
        · subst z
          rw [e]
          refine List.any_eq_false.mpr fun g hg => ?_
          have : g.2 ≤ y := by
            rcases List.mem_append.mp hg with q | q
            · have := h0 g q; omega
            · rw [List.mem_singleton.mp q]; show b ≤ y; omega
          rw [decide_eq_false (show ¬ y < g.2 by omega), Bool.and_false]; decide
        · exact h.cov y (by omega)
      · rcases List.mem_append.mp hg with q | q
        · have := h0 g q; omega
        · rw [List.mem_singleton.mp q]; show b < x + 1; omega
/-- how far a run goes -/
def upTo (n len f b : Nat) : Nat := min len (b + (n - (b - f) % n) % n)
theorem up_new {n len x : Nat} (n1 : 1 ≤ n) : upTo n len x (x + 1) = min len (x + 1 + (n - 1)) := by
  unfold upTo
  rw [show x + 1 - x = 1 by omega]
  by_cases h : n = 1
  · subst h; rfl
  · rw [Nat.mod_eq_of_lt (show 1 < n by omega), Nat.mod_eq_of_lt (show n - 1 < n by omega)]
theorem mod_add_mul {n k r : Nat} : (k * n + r) % n = r % n := by rw [Nat.add_comm, Nat.add_mul_mod_self_right]
/-- a cover far behind the last run, or the first one -/
theorem GSt.new {n : Nat} {zs : Rw} {x : Nat} {G : List (Nat × Nat)} (h : GSt n zs x G) (n1 : 1 ≤ n) (hx : x < zs.length) (c : zs.getD x 0 = 35) (hb : ∀ g ∈ G, g.2 < x) : GSt n zs (x + 1) (G ++ [(x, upTo n zs.length x (x + 1))]) := by
  have es := evS_succ (n := n) hx
  have r0 : evS n zs x = 0 := by
    rcases h.last with ⟨h0, _⟩ | ⟨G0, f, b, rfl, _, _, r1, rn, _, hbb⟩
    · exact h0
    · have := hb (f, b) (List.mem_append_right _ (List.mem_singleton.mpr rfl))
      have this : b < x := this
      omega
  have e : evB n (evS n zs x) (zs.getD x 0) = true := by unfold evB; rw [decide_eq_true c, Bool.true_or]
  have e2 : evS n zs (x + 1) = 1 := by rw [es, r0]; unfold evStep; rw [r0] at e; rw [if_pos e, if_pos (by omega)]
  rw [up_new n1]
  refine ⟨fun y hy => ?_, fun g hg => ?_, by rw [List.length_append]; exact Nat.succ_le_succ h.len, .inr ⟨G, x, _, rfl, hb, Nat.lt_succ_self x, by omega, by omega, ⟨0, by omega⟩, by rw [e2]⟩⟩
  · rw [cov_snoc]
    by_cases z : y = x
    · subst z
      rw [e, decide_eq_true (Nat.le_refl y), decide_eq_true (show y < min zs.length (y + 1 + (n - 1)) by omega)]
      simp
    · rw [h.cov y (by omega), decide_eq_false (show ¬ x ≤ y by omega)]
      simp
  · rcases List.mem_append.mp hg with q | q
    · exact h.lt g q
    · rw [List.mem_singleton.mp q]
      exact ⟨by show x < min _ _; omega, Nat.min_le_left _ _⟩
/-- a cover within the last run, or close behind it -/
theorem GSt.grow {n : Nat} {zs : Rw} {x : Nat} {G0 : List (Nat × Nat)} {f b : Nat} (h : GSt n zs x (G0 ++ [(f, b)])) (n1 : 1 ≤ n) (hx : x < zs.length) (c : zs.getD x 0 = 35) (hb : x ≤ b) : GSt n zs (x + 1) (G0 ++ [(f, upTo n zs.length f (max (x + 1) b))]) := by
  have es := evS_succ (n := n) hx
  rcases h.last with ⟨_, h1⟩ | ⟨G1, f1, b1, eG, h0, fx, r1, rn, ⟨k, hk⟩, hbb⟩
  · have := h1 (f, b) (List.mem_append_right _ (List.mem_singleton.mpr rfl))
    have this : b < x := this
    omega
  obtain ⟨rfl, e0⟩ := List.append_inj' eG rfl
  have e0 := List.singleton_inj.mp e0
  obtain ⟨rfl, rfl⟩ := Prod.mk.inj e0
  have e : evB n (evS n zs x) (zs.getD x 0) = true := by unfold evB; rw [decide_eq_true c, Bool.true_or]
  have hold : ∀ b2, b ≤ b2 → b2 ≤ zs.length → x < b2 → (∀ y, y < x + 1 → covG (G0 ++ [(f, b2)]) y = evB n (evS n zs y) (zs.getD y 0)) ∧ (∀ g ∈ G0 ++ [(f, b2)], g.1 < g.2 ∧ g.2 ≤ zs.length) ∧ (G0 ++ [(f, b2)]).length ≤ x + 1 := fun b2 q1 q2 q3 => by
    refine ⟨fun y hy => ?_, fun g hg => ?_, ?_⟩
    · by_cases z : y = x
      · subst z
        rw [e, cov_snoc, decide_eq_true (show f ≤ y by omega), decide_eq_true q3]
        simp
      · have := h.cov y (by omega)
        rw [cov_snoc] at this
        rw [cov_snoc, decide_eq_true (show y < b2 by omega), ← this, decide_eq_true (show y < b by omega)]
    · rcases List.mem_append.mp hg with q | q
      · exact h.lt g (List.mem_append_left _ q)
      · rw [List.mem_singleton.mp q]
        exact ⟨by show f < b2; omega, q2⟩
    · have := h.len
      rw [List.length_append] at this ⊢
      exact Nat.le_succ_of_le this
  by_cases c2 : evS n zs x < n
  · have e2 : evS n zs (x + 1) = evS n zs x + 1 := by rw [es]; unfold evStep; rw [if_pos e, if_pos c2]
    have e3 : upTo n zs.length f (max (x + 1) b) = b := by
      rw [show max (x + 1) b = b by omega]
      unfold upTo
      by_cases cap : x + (n - evS n zs x) ≤ zs.length
      · have hb2 : b = x + (n - evS n zs x) := by omega
        have : (b - f) % n = 0 := by
          rw [show b - f = (k + 1) * n + 0 by rw [Nat.add_mul]; omega, mod_add_mul]; rfl
        rw [this, Nat.sub_zero, Nat.mod_self]; omega
      · omega
    rw [e3]
    obtain ⟨q1, q2, q3⟩ := hold b (Nat.le_refl _) (by omega) (by omega)
    exact ⟨q1, q2, q3, .inr ⟨G0, f, b, rfl, h0, by omega, by omega, by omega, ⟨k, by omega⟩, by omega⟩⟩
  · have rn2 : evS n zs x = n := by omega
    have e2 : evS n zs (x + 1) = 1 := by rw [es]; unfold evStep; rw [if_pos e, if_neg c2]
    have bx : b = x := by omega
    have e3 : upTo n zs.length f (max (x + 1) b) = min zs.length (x + 1 + (n - 1)) := by
      rw [show max (x + 1) b = x + 1 by omega]
      unfold upTo
      by_cases h1 : n = 1
      · subst h1
        rw [Nat.mod_one]
      · have : (x + 1 - f) % n = 1 := by
          rw [show x + 1 - f = (k + 1) * n + 1 by rw [Nat.add_mul]; omega, mod_add_mul, Nat.mod_eq_of_lt (by omega)]
        rw [this, Nat.mod_eq_of_lt (show n - 1 < n by omega)]
    rw [e3]
    obtain ⟨q1, q2, q3⟩ := hold (min zs.length (x + 1 + (n - 1))) (by omega) (Nat.min_le_left _ _) (by omega)
    exact ⟨q1, q2, q3, .inr ⟨G0, f, _, rfl, h0, by omega, by omega, by omega, ⟨k + 1, by rw [Nat.add_mul]; omega⟩, by rw [e2]⟩⟩
theorem even_cov {n : Nat} {zs : Rw} {G : List (Nat × Nat)} (h : GSt n zs zs.length G) : evenN n zs = (List.range zs.length).map fun y => if covG G y = true then 35 else zs.getD y 0 := by
  unfold evenN
  refine List.map_congr_left fun y hy => ?_
  rw [h.cov y (List.mem_range.mp hy)]
/-! blocks -/
def blockN (rs : Pg) : Pg := if rs.any hasC = true then rs.map wholeN else rs
def blkF (st : Pg × Pg) (r : Rw) : Pg × Pg := if blankN r = true then (st.1 ++ (blockN st.2 ++ [r]), []) else (st.1, st.2 ++ [r])
def blkS (l : Pg) : Pg × Pg := l.foldl blkF ([], [])
def blocksN (l : Pg) : Pg := (blkS l).1 ++ blockN (blkS l).2
theorem blkS_snoc (l : Pg) (r : Rw) : blkS (l ++ [r]) = blkF (blkS l) r := by unfold blkS; rw [List.foldl_append]; rfl
theorem block_len (rs : Pg) : (blockN rs).length = rs.length := by unfold blockN; split <;> simp
def mkB (l : Pg) (k : Nat) : Nat := ((l.take (k + 1)).filter blankN).length
def mkL (l : Pg) : Nat := (l.filter blankN).length
def hitB (l : Pg) (j : Nat) : Bool := (List.range l.length).any fun k => hasC (l.getD k []) && decide (mkB l k = j)
def outB (l : Pg) (k : Nat) : Rw := if (hitB l (mkB l k) && !blankN (l.getD k [])) = true then wholeN (l.getD k []) else l.getD k []
theorem mkB_le (l : Pg) (k : Nat) : mkB l k ≤ mkL l := by
  unfold mkB mkL
  exact (List.Sublist.filter _ (List.take_sublist _ l)).length_le
theorem mkB_old {l : Pg} {r : Rw} {k : Nat} (h : k < l.length) : mkB (l ++ [r]) k = mkB l k := by
  unfold mkB
  rw [List.take_append_of_le_length (by omega)]
theorem getD_old {l : Pg} {r : Rw} {k : Nat} (h : k < l.length) : (l ++ [r]).getD k [] = l.getD k [] := by
  rw [List.getD_eq_getElem?_getD, List.getElem?_append_left h, ← List.getD_eq_getElem?_getD]
theorem getD_new {l : Pg} {r : Rw} : (l ++ [r]).getD l.length [] = r := by
  rw [List.getD_eq_getElem?_getD, List.getElem?_append_right (Nat.le_refl _), Nat.sub_self]; rfl
theorem mkB_new {l : Pg} {r : Rw} : mkB (l ++ [r]) l.length = mkL (l ++ [r]) := by
  unfold mkB mkL
  rw [List.take_of_length_le (by rw [List.length_append]; exact Nat.le_refl _)]
theorem mkL_snoc (l : Pg) (r : Rw) : mkL (l ++ [r]) = mkL l + if blankN r = true then 1 else 0 := by
  unfold mkL
  rw [List.filter_append, List.length_append]
  refine congrArg _ ?_
  by_cases h : blankN r = true
  · rw [if_pos h, List.filter_cons_of_pos h]; rfl
  · rw [if_neg h, List.filter_cons_of_neg h]; rfl
theorem any_congr2 {α : Type} {p q : α → Bool} : ∀ {l : List α}, (∀ x ∈ l, p x = q x) → l.any p = l.any q
  | [], _ => rfl
  | x :: l, h => by
    rw [List.any_cons, List.any_cons, h x List.mem_cons_self, any_congr2 fun y hy => h y (List.mem_cons_of_mem _ hy)]
theorem hitB_snoc (l : Pg) (r : Rw) (j : Nat) : hitB (l ++ [r]) j = (hitB l j || (hasC r && decide (mkL (l ++ [r]) = j))) := by
  unfold hitB
  rw [List.length_append, show l.length + [r].length = l.length + 1 from rfl, List.range_succ, List.any_append]
  have e1 : ((List.range l.length).any fun k => hasC ((l ++ [r]).getD k []) && decide (mkB (l ++ [r]) k = j)) = (List.range l.length).any fun k => hasC (l.getD k []) && decide (mkB l k = j) := any_congr2 fun k hk => by
    have hk := List.mem_range.mp hk
    rw [getD_old hk, mkB_old hk]
  rw [e1]
  simp only [List.any_cons, List.any_nil, Bool.or_false]
  rw [getD_new, mkB_new]
structure BInv (l : Pg) : Prop where
  len : (blkS l).1.length + (blkS l).2.length = l.length
  run : ∀ k, k < (blkS l).2.length → (blkS l).2.getD k [] = l.getD ((blkS l).1.length + k) []
  hi : ∀ k, (blkS l).1.length ≤ k → k < l.length → mkB l k = mkL l ∧ blankN (l.getD k []) = false
  lo : ∀ k, k < (blkS l).1.length → (mkB l k < mkL l ∨ blankN (l.getD k []) = true) ∧ (blkS l).1.getD k [] = outB l k
theorem BInv.hit {l : Pg} (h : BInv l) : hitB l (mkL l) = (blkS l).2.any hasC := by
  have hl := h.len
  cases e : (blkS l).2.any hasC with
  | true =>
    obtain ⟨r, hr, hc⟩ := List.any_eq_true.mp e
    obtain ⟨k, hk, ek⟩ := mem_at hr
    have e2 : (blkS l).2.getD k [] = r := getD_of ek
    have e3 := h.run k hk
    refine List.any_eq_true.mpr ⟨(blkS l).1.length + k, List.mem_range.mpr (by omega), ?_⟩
    rw [← e3, e2, hc, Bool.true_and]
    exact decide_eq_true (h.hi _ (Nat.le_add_right _ _) (by omega)).1
  | false =>
    refine List.any_eq_false.mpr fun k hk => ?_
    have hk := List.mem_range.mp hk
    intro z
    rw [Bool.and_eq_true] at z
    have z2 := of_decide_eq_true z.2
    by_cases c : k < (blkS l).1.length
    · rcases (h.lo k c).1 with q | q
      · omega
      · rw [blank_no q] at z; cases z.1
    · have hk2 : k - (blkS l).1.length < (blkS l).2.length := by omega
      have e3 := h.run _ hk2
      rw [show (blkS l).1.length + (k - (blkS l).1.length) = k by omega] at e3
      have := List.any_eq_false.mp e _ (getD_mem (d := []) hk2)
      rw [e3, z.1] at this
      exact this rfl
theorem BInv.all {l : Pg} (h : BInv l) : (blocksN l).length = l.length ∧ ∀ k, k < l.length → (blocksN l).getD k [] = outB l k := by
  have hl := h.len
  refine ⟨by unfold blocksN; rw [List.length_append, block_len]; exact hl, fun k hk => ?_⟩
  unfold blocksN
  by_cases c : k < (blkS l).1.length
  · rw [List.getD_eq_getElem?_getD, List.getElem?_append_left c, ← List.getD_eq_getElem?_getD]
    exact (h.lo k c).2
  · have c : (blkS l).1.length ≤ k := by omega
    obtain ⟨m1, m2⟩ := h.hi k c hk
    have hk2 : k - (blkS l).1.length < (blkS l).2.length := by omega
    have e3 := h.run _ hk2
    rw [show (blkS l).1.length + (k - (blkS l).1.length) = k by omega] at e3
    rw [List.getD_eq_getElem?_getD, List.getElem?_append_right c, ← List.getD_eq_getElem?_getD]
    unfold outB blockN
    rw [m1, m2, h.hit, Bool.not_false, Bool.and_true]
    split
    · rw [List.getD_eq_getElem?_getD, List.getElem?_map, ← e3, List.getD_eq_getElem?_getD, List.getElem?_eq_getElem hk2]; rfl
    · exact e3
theorem b_inv : ∀ l : Pg, BInv l := by
  refine list_snoc (p := BInv) ⟨rfl, fun k h => absurd h (Nat.not_lt_zero k), fun k _ h => absurd h (Nat.not_lt_zero k), fun k h => absurd h (Nat.not_lt_zero k)⟩ fun l r h => ?_
  have hl := h.len
  obtain ⟨al, ak⟩ := h.all
  have es := blkS_snoc l r
  have em := mkL_snoc l r
  by_cases hb : blankN r = true
  · rw [if_pos hb] at em
    have e1 : blkS (l ++ [r]) = (blocksN l ++ [r], []) := by
      rw [es]
      unfold blkF blocksN
      rw [if_pos hb, List.append_assoc]
    refine ⟨by rw [e1, List.length_append, List.length_append, al]; rfl, fun k hk => ?_, fun k h1 h2 => ?_, fun k hk => ?_⟩
    · rw [e1] at hk; exact absurd hk (Nat.not_lt_zero k)
    · rw [e1, List.length_append, al] at h1
      rw [List.length_append] at h2
      omega
    · rw [e1] at hk ⊢
      have hk : k < (blocksN l ++ [r]).length := hk
      rw [List.length_append, al] at hk
      show _ ∧ (blocksN l ++ [r]).getD k [] = _
      by_cases c : k < l.length
      · have := mkB_le l k
        refine ⟨.inl (by rw [mkB_old c, em]; omega), ?_⟩
        rw [getD_old (by rw [al]; exact c), ak k c]
        unfold outB
        rw [mkB_old c, getD_old c, hitB_snoc, blank_no hb, Bool.false_and, Bool.or_false]
      · have c : k = l.length := by
          have : k < l.length + 1 := hk
          omega
        subst c
        refine ⟨.inr (by rw [getD_new]; exact hb), ?_⟩
        have : (blocksN l ++ [r]).getD l.length [] = r := by rw [← al]; exact getD_new
        rw [this]
        unfold outB
        rw [getD_new, hb, Bool.not_true, Bool.and_false, if_neg Bool.false_ne_true]
  · have hb2 : blankN r = false := by
      cases z : blankN r with
      | true => exact absurd z hb
      | false => rfl
    rw [if_neg hb, Nat.add_zero] at em
    have e1 : blkS (l ++ [r]) = ((blkS l).1, (blkS l).2 ++ [r]) := by
      rw [es]
      unfold blkF
      rw [if_neg hb]
    refine ⟨?_, fun k hk => ?_, fun k h1 h2 => ?_, fun k hk => ?_⟩
    · rw [e1]; show (blkS l).1.length + ((blkS l).2 ++ [r]).length = _; rw [List.length_append, List.length_append, ← hl]; show _ + (_ + 1) = _ + _ + 1; omega
    · rw [e1] at hk ⊢
      have hk : k < ((blkS l).2 ++ [r]).length := hk
      show ((blkS l).2 ++ [r]).getD k [] = (l ++ [r]).getD ((blkS l).1.length + k) []
      rw [List.length_append] at hk
      by_cases c : k < (blkS l).2.length
      · rw [getD_old c, getD_old (by omega)]
        exact h.run k c
      · have c : k = (blkS l).2.length := by
          have : k < (blkS l).2.length + 1 := hk
          omega
        subst c
        rw [getD_new, hl, getD_new]
    · rw [e1] at h1
      have h1 : (blkS l).1.length ≤ k := h1
      by_cases c : k < l.length
      · rw [mkB_old c, getD_old c, em]
        exact h.hi k h1 c
      · have c : k = l.length := by
          rw [List.length_append] at h2
          have : k < l.length + 1 := h2
          omega
        subst c
        exact ⟨mkB_new, by rw [getD_new]; exact hb2⟩
    · rw [e1] at hk ⊢
      have hk : k < (blkS l).1.length := hk
      have c : k < l.length := by omega
      obtain ⟨q1, q2⟩ := h.lo k hk
      refine ⟨by rw [mkB_old c, getD_old c, em]; exact q1, ?_⟩
      show (blkS l).1.getD k [] = _
      rw [q2]
      unfold outB
      rw [mkB_old c, getD_old c, hitB_snoc]
      rcases q1 with q | q
      · rw [decide_eq_false (show ¬ mkL (l ++ [r]) = mkB l k by omega), Bool.and_false, Bool.or_false]
      · rw [q, Bool.not_true, Bool.and_false, Bool.and_false]
theorem blocks_out (l : Pg) : blocksN l = (List.range l.length).map (outB l) := by
  obtain ⟨h1, h2⟩ := (b_inv l).all
  refine List.ext_getElem (by rw [h1, List.length_map, List.length_range]) fun i a b => ?_
  have := h2 i (by omega)
  rw [List.getD_eq_getElem?_getD, List.getElem?_eq_getElem a] at this
  rw [List.getElem_map, List.getElem_range]
  exact this
/-! below -/
def pgC (p : Pg) : Bool := p.any hasC
def bgB (look : List Pg) (p r : Nat) : Bool := (look.take p).any pgC || ((look.getD p []).take (r + 1)).any hasC
def rowBel (look : List Pg) (p r : Nat) : Rw := if bgB look p r = true then wholeN ((look.getD p []).getD r []) else (look.getD p []).getD r []
def belowN (look : List Pg) : List Pg := (List.range look.length).map fun p => (List.range (look.getD p []).length).map (rowBel look p)
def spotP (look : List Pg) (p : Nat) : List (Nat × Nat) := ((List.range (look.getD p []).length).filter fun r => hasC ((look.getD p []).getD r [])).map fun r => (p, r)
def spots (look : List Pg) : List (Nat × Nat) := (List.range look.length).flatMap (spotP look)
def lexP (a b : Nat × Nat) : Prop := a.1 < b.1 ∨ (a.1 = b.1 ∧ a.2 < b.2)
theorem spots_mem {look : List Pg} {x : Nat × Nat} : x ∈ spots look ↔ x.1 < look.length ∧ x.2 < (look.getD x.1 []).length ∧ hasC ((look.getD x.1 []).getD x.2 []) = true := by
  unfold spots
  rw [List.mem_flatMap]
  constructor
  · rintro ⟨p, hp, h⟩
    obtain ⟨r, hr, rfl⟩ := List.mem_map.mp h
    have ⟨a, b⟩ := List.mem_filter.mp hr
    exact ⟨List.mem_range.mp hp, List.mem_range.mp a, b⟩
  · rintro ⟨a, b, c⟩
    exact ⟨x.1, List.mem_range.mpr a, List.mem_map.mpr ⟨x.2, List.mem_filter.mpr ⟨List.mem_range.mpr b, c⟩, rfl⟩⟩
theorem spots_asc (look : List Pg) : (spots look).Pairwise lexP := by
  unfold spots
  rw [List.pairwise_flatMap]
  refine ⟨fun p _ => ?_, ?_⟩
  · unfold spotP
    rw [List.pairwise_map]
    exact (List.Pairwise.filter _ List.pairwise_lt_range).imp fun {a b} h => .inr ⟨rfl, h⟩
  · refine List.pairwise_lt_range.imp fun {a b} h x hx y hy => ?_
    obtain ⟨_, _, rfl⟩ := List.mem_map.mp hx
    obtain ⟨_, _, rfl⟩ := List.mem_map.mp hy
    exact .inl h
/-- behind the first cover, or at it -/
theorem bg_spots {look : List Pg} {p r : Nat} (hp : p < look.length) (hr : r < (look.getD p []).length) : bgB look p r = true ↔ ∃ f t, spots look = f :: t ∧ ¬ lexP (p, r) f := by
  have ex : bgB look p r = true ↔ ∃ x ∈ spots look, ¬ lexP (p, r) x := by
    unfold bgB
    rw [Bool.or_eq_true]
    constructor
    · rintro (h | h)
      · obtain ⟨pg, hpg, hc⟩ := List.any_eq_true.mp h
        obtain ⟨i, hi, ei⟩ := mem_at hpg
        rw [List.length_take] at hi
        rw [List.getElem?_take, if_pos (by omega)] at ei
        obtain ⟨rw0, hrw, hc⟩ := List.any_eq_true.mp hc
        obtain ⟨j, hj, ej⟩ := mem_at hrw
        have e1 : look.getD i [] = pg := getD_of ei
        refine ⟨(i, j), spots_mem.mpr ⟨by show i < _; omega, by show j < (look.getD i []).length; rw [e1]; exact hj, by show hasC ((look.getD i []).getD j []) = true; rw [e1, getD_of ej]; exact hc⟩, ?_⟩
        rintro (z | ⟨z, _⟩)
        · have z : p < i := z; omega
        · have z : p = i := z; omega
      · obtain ⟨rw0, hrw, hc⟩ := List.any_eq_true.mp h
        obtain ⟨j, hj, ej⟩ := mem_at hrw
        rw [List.length_take] at hj
        rw [List.getElem?_take, if_pos (by omega)] at ej
        refine ⟨(p, j), spots_mem.mpr ⟨hp, by show j < (look.getD p []).length; omega, by show hasC ((look.getD p []).getD j []) = true; rw [getD_of ej]; exact hc⟩, ?_⟩
        rintro (z | ⟨_, z⟩)
        · have z : p < p := z; omega
        · have z : r < j := z; omega
    · rintro ⟨⟨i, j⟩, hx, hn⟩
      obtain ⟨a, b, c⟩ := spots_mem.mp hx
      have a : i < look.length := a
      have b : j < (look.getD i []).length := b
      have c : hasC ((look.getD i []).getD j []) = true := c
      by_cases h : i < p
      · refine .inl (List.any_eq_true.mpr ⟨look.getD i [], ?_, List.any_eq_true.mpr ⟨_, getD_mem b, c⟩⟩)
        refine List.mem_iff_getElem?.mpr ⟨i, ?_⟩
        rw [List.getElem?_take, if_pos h, List.getD_eq_getElem?_getD, List.getElem?_eq_getElem a]; rfl
      · have hi : i = p := by
          by_cases z : p < i
          · exact absurd (.inl z) hn
          · omega
        subst hi
        have hj : j ≤ r := by
          by_cases z : r < j
          · exact absurd (.inr ⟨rfl, z⟩) hn
          · omega
        refine .inr (List.any_eq_true.mpr ⟨_, ?_, c⟩)
        refine List.mem_iff_getElem?.mpr ⟨j, ?_⟩
        rw [List.getElem?_take, if_pos (by omega)]
        show (look.getD i [])[j]? = some ((look.getD i []).getD j [])
        generalize look.getD i [] = pg at b
        rw [List.getD_eq_getElem?_getD, List.getElem?_eq_getElem b]; rfl
  rw [ex]
  have asc := spots_asc look
  constructor
  · rintro ⟨x, hx, hn⟩
    cases e : spots look with
    | nil => rw [e] at hx; cases hx
    | cons f t =>
      rw [e] at hx asc
      refine ⟨f, t, rfl, fun z => hn ?_⟩
      rcases List.mem_cons.mp hx with q | q
      · rw [q]; exact z
      · have l := (List.pairwise_cons.mp asc).1 x q
        rcases z with z | ⟨z1, z2⟩ <;> rcases l with l | ⟨l1, l2⟩
        · exact .inl (Nat.lt_trans z l)
        · exact .inl (by rw [← l1]; exact z)
        · exact .inl (by rw [z1]; exact l)
        · exact .inr ⟨z1.trans l1, Nat.lt_trans z2 l2⟩
  · rintro ⟨f, t, e, hn⟩
    exact ⟨f, by rw [e]; exact List.mem_cons_self, hn⟩
end Vf

set_option Elab.async false
set_option linter.all false
set_option maxRecDepth 100000
set_option maxHeartbeats 4000000
/-! ### rules: enumerate over a text, list of a text, >= of tuples of ints -/
namespace PySem
set_option maxHeartbeats 2000000 in
theorem vf_meets {v : Value} {o : Obj} {G : Heap → Prop} (B : Begins v o G) :
    Meets (Builtin.«enumerate.__new__» ⟨[.type "enumerate", v], []⟩)
      (fun _ R s => G s.heap ∧ R (.ok (.ret (.ref (s.heap.push o).objs.size)))
        { s with heap := (s.heap.push o).push { cls := .type "enumerate", data := .fields #[.none, .bool false, .ref s.heap.objs.size, rawInt 0, .none, .none] } }) := by
  refine .of_wp fun prog w A R s h => ?_
  rcases s with ⟨hp, g, d, tk, os⟩
  rcases h with ⟨g1, r1⟩
  have sb := sub_enumerate
  have begins : ∀ {A' : Around} {E : Value → Shared → Prop} {Q : Value → Shared → Prop}, Q (.ref hp.objs.size) ⟨hp.push o, g, d, tk, os⟩ →
      wpAny (model prog w) A' (pyIter v) Q E ⟨hp, g, d, tk, os⟩ := fun q => B.iter prog w _ _ ⟨hp, g, d, tk, os⟩ _ g1 q
  wp_walk using begins
  refine wpAny_stack_any fun st => (wpAny_pure ?_)
  split
  next c _ _ _ _ _ =>
    cases (c == Value.type "enumerate") <;> (wp_walk using begins; exact Exists.intro _ (And.intro rfl r1))
  next => wp_walk using begins; exact Exists.intro _ (And.intro rfl r1)
section
variable {prog : Program} {w : World} {A : Around} {E : Value → Shared → Prop} {s : Shared}
theorem vf_enum {v : Value} {o : Obj} {G : Heap → Prop} {Q : Value → Shared → Prop} (B : Begins v o G) (g1 : G s.heap)
    (h : ∀ h' : Heap, IsEnum h' (s.heap.objs.size + 1) s.heap.objs.size 0 .none → h'.get? s.heap.objs.size = some o →
      (∀ b u, s.heap.get? b = some u → h'.get? b = some u) → Q (.ref (s.heap.objs.size + 1)) { s with heap := h' }) :
    wpAny (model prog w) A (call (.type "enumerate") [v]) Q E s := by
  have zz : (s.heap.push o).objs.size = s.heap.objs.size + 1 := Heap.size_push ..
  have ie : IsEnum ((s.heap.push o).push { cls := .type "enumerate", data := .fields #[.none, .bool false, .ref s.heap.objs.size, rawInt 0, .none, .none] }) (s.heap.objs.size + 1) s.heap.objs.size 0 .none := by
    have q := Heap.get?_push_size (s.heap.push o) (o := { cls := .type "enumerate", data := .fields #[.none, .bool false, .ref s.heap.objs.size, rawInt 0, .none, .none] }) rfl
    rw [zz] at q
    exact q
  refine callType_new F.called_enumerate (by decide) (F.typeCall_enumerate_1 _) (F.newCall_enumerate_1 _)
    (fun obj => F.args_object_init_2 obj _) F.entry_enumerate_new (vf_meets B) (And.intro g1 ?_)
  show _ ∧ _
  rw [zz]
  exact ⟨⟨_, ie, rfl⟩, h _ ie (Heap.get?_push_of_some _ (Heap.get?_push_size _ B.free))
    fun b u x => Heap.get?_push_of_some _ (Heap.get?_push_of_some _ x)⟩
end
end PySem
namespace Vf
open PySem PySem.Spec PyProof.Rows L2 TL
/-- the text x, each sign in a new pair with its number -/
def IteS (x : Str) : It where
  go := fun i _ => i < x.cps.size
  yld := fun i H v H' => ∃ (T : Addr) (c : Nat), v = .ref T ∧ H T = none ∧ H' = upd H T (.tup [.int (i : Nat), .str ⟨#[c]⟩]) ∧ x.cps[i]? = some c
  stop := fun i _ => x.cps.size = i
theorem apart_of {h : Heap} {a b : Addr} {o u : Obj} {m n : String} (ha : h.get? a = some o) (hb : h.get? b = some u) (ca : o.cls = .type m) (cb : u.cls = .type n) (ne : m ≠ n) : a ≠ b := fun e => by
  rw [e, hb] at ha
  have e2 : u = o := Option.some.inj ha
  rw [e2, ca] at cb
  exact ne (by injection cb)
theorem turn_enumS {P : Program} {w : World} {K : PySem.W.Frag} {elts : List Expr} {kk : Nat} {tpos : Pos} (x : Str) (t : Tok) (e it : Addr) :
    Turn P w K (.Tuple elts kk tpos) (IteS x) [e, it] e (fun i h => (∃ old, IsEnum h e it ((i : Nat) : Int) old) ∧ h.IsStrIter it (strIterType x) x t i ∧ e ≠ it) where
  mem := List.mem_cons_self
  obj := fun i h st b hb => by
    obtain ⟨⟨old, ie⟩, ⟨u, hu, _, du⟩, _⟩ := st
    rcases List.mem_cons.mp hb with z | z
    · rw [z]; exact ⟨_, ie, fun v q => nomatch q⟩
    · rw [List.mem_singleton.mp z]; exact ⟨u, hu, fun v q => by rw [du] at q; cases q⟩
  keep := fun i h h' st k => by
    obtain ⟨⟨old, ie⟩, ⟨u, hu, r⟩, ne⟩ := st
    exact ⟨⟨old, k e List.mem_cons_self _ ie⟩, ⟨u, k it (List.mem_cons_of_mem _ List.mem_cons_self) u hu, r⟩, ne⟩
  item := by
    intro X hP hw hK hc i pins s σ H E I hf st hg
    subst hP hw hK
    obtain ⟨⟨old, ie⟩, it1, ne⟩ := st
    have hel : e < s.heap.objs.size := Heap.lt_size ie
    obtain ⟨oi, gi, ci, _⟩ := id it1
    have hil : it < s.heap.objs.size := Heap.lt_size gi
    refine wpAny_pyNext_enum_itemD (Draws.text (prog := X.prog) (w := X.w) (A := X.A.in1) (I.ok.hd hc) it x t) ie it1 hg ne (fun hm => ne (List.mem_singleton.mp hm)) fun y h' tk hy ho hst hT hsz hk => ?_
    obtain ⟨c, u, hcx, rfl⟩ := hy
    refine ⟨_, rfl, wpAny_letOwnedTupleGo_enum (s := { s with heap := h', toks := tk + 1 }) ho fun h2 he2 sb => ?_⟩
    have hT2 : h2.get? s.heap.objs.size = some { cls := .type "tuple", data := .seq #[.int i tk, .str ⟨#[c]⟩ u] } := (sb.2 _ (Nat.ne_of_gt hel)).trans hT
    have made : ObjOk X.prog X.w (upd H s.heap.objs.size (.tup [.int (i : Nat), .str ⟨#[c]⟩])) h2 s.heap.objs.size (.tup [.int (i : Nat), .str ⟨#[c]⟩]) :=
      ⟨(by show 2 ≤ sizeLine; decide), [.int i tk, .str ⟨#[c]⟩ u], .cons ⟨_, rfl⟩ (.cons ⟨_, rfl⟩ .nil), ⟨_, hT2, rfl, _, rfl⟩⟩
    have J : Inv X pins σ (upd H s.heap.objs.size (.tup [.int (i : Nat), .str ⟨#[c]⟩])) { s with heap := h2, toks := tk + 1 } :=
      I.turnedNew (ch := [e, it]) (fun b ob hb q => (sb.2 b (fun z => hb (by rw [z]; exact List.mem_cons_self))).trans
        (hk b ob (fun z => hb (by rw [z]; exact List.mem_cons_self)) (fun z => hb (by rw [z]; exact List.mem_cons_of_mem _ List.mem_cons_self)) q)) hf (Nat.le_refl _) made
    have e1 : ((i + 1 : Nat) : Int) = (i : Int) + 1 := by omega
    refine ⟨.ref s.heap.objs.size, _, J, rfl, ⟨_, c, rfl, I.hok.fresh (Nat.le_refl _), rfl, hcx⟩,
      ⟨⟨_, by rw [e1]; exact he2⟩, ?_, ne⟩, fun b hb => ?_⟩
    · obtain ⟨o3, g3, r3⟩ := hst
      exact ⟨o3, (sb.2 it (Ne.symm ne)).trans g3, r3⟩
    · have hlt : b < s.heap.objs.size := by
        rcases List.mem_cons.mp hb with z | z
        · rw [z]; exact hel
        · rw [List.mem_singleton.mp z]; exact hil
      rw [upd_ne (Nat.ne_of_lt hlt)]
      exact (hf b hb).1
  done := by
    intro X hP hw hK hc i pins s σ H E I hf st hg
    subst hP hw hK
    obtain ⟨⟨old, ie⟩, it1, ne⟩ := st
    obtain ⟨f0, f1, f2, f3, f4, f5⟩ := hf it (List.mem_cons_of_mem _ List.mem_cons_self)
    have hg : x.cps.size = i := hg
    subst hg
    exact wpAny_pyNext_enum_endD (Draws.text (prog := X.prog) (w := X.w) (A := X.A.in1) (I.ok.hd hc) it x t) ie it1 fun h' eb => ⟨rfl, I.turned (t' := s.toks) (fun b o hb q => eb b o hb q) f0 f1 f3 f4 f5⟩
  self := fun A i s Q E st h => by
    obtain ⟨⟨_, ie⟩, _⟩ := st
    exact wpAny_pyIter_enum ie h
def iEnumS (ta : TA) : TI := fun σ H R => ta σ H fun vs H1 => ∃ x : Str, vs = [.str x] ∧ R (IteS x) H1
theorem pi_enumS {X : Cx} {e : Expr} {ta : TA} {p pos tpos : Pos} {elts : List Expr} {kk : Nat} (hg : Gl X "enumerate") (hm : X.mg "enumerate" = none) (ha : PA X [e] ta)
    (hs : starEach [e] X.env = [(false, eval e X.env)] := by rfl) : PI X (.Tuple elts kk tpos) (.Call (.Name "enumerate" p) [e] [] pos) (iEnumS ta) := by
  constructor
  intro pins s σ H R I h
  refine Call_ (ld_blt I hg hm boot_enumerate (PyProof.Rows.callWith_type1 (thn (ha.run pos pins s σ H _ I h) fun us s1 res => ?_) hs rfl))
  obtain ⟨vs, H1, I1, r1, x, ex, q⟩ := res
  subst ex
  cases r1 with
  | cons r rr =>
    cases rr
    obtain ⟨t, rfl⟩ := r
    refine vf_enum (begins_text x t) trivial fun h' ie gi hk => wpAny_pyIter_enum ie ?_
    have J : Inv X pins σ H1 { s1 with heap := h' } := I1.kept (t' := s1.toks) hk
    refine ⟨s1.heap.objs.size + 1, [s1.heap.objs.size + 1, s1.heap.objs.size], _, _, H1, rfl, J, turn_enumS x t (s1.heap.objs.size + 1) s1.heap.objs.size, ⟨⟨.none, ie⟩, ⟨_, gi, rfl, rfl⟩, Nat.succ_ne_self _⟩, fun b hb => ?_, q⟩
    have le : s1.heap.objs.size ≤ b := by
      rcases List.mem_cons.mp hb with z | z
      · rw [z]; exact Nat.le_succ _
      · rw [List.mem_singleton.mp z]; exact Nat.le_refl _
    exact I1.fpOk le (I1.hok.fresh le)
theorem walk_enumS {x : Str} : Walk (IteS x) x.cps.size (fun _ => True) (fun i H v H' => ∃ (T : Addr) (c : Nat), v = .ref T ∧ H T = none ∧ H' = upd H T (.tup [.int (i : Nat), .str ⟨#[c]⟩]) ∧ x.cps[i]? = some c) :=
  ⟨fun _ _ hi _ => hi, fun _ _ => rfl, fun _ _ _ _ _ _ y => y⟩
/-- list(text): its signs -/
def rListS : List V → Hp → VK → Prop := fun xs H Q => ∃ zs : List Nat, xs = [sV zs] ∧ zs.length ≤ sizeLine ∧ ∀ l, H l = none → Q (.ref l) (upd H l (.lst (zs.map fun c => sV [c])))
theorem vals_signs : ∀ (zs : List Nat) (us : List Value), us.length = zs.length → (∀ (j : Nat) (v : Value), us[j]? = some v → ∃ (c : Nat) (u : Tok), zs[j]? = some c ∧ v = Value.str ⟨#[c]⟩ u) → Vals (zs.map fun c : Nat => sV [c]) us
  | [], [], _, _ => .nil
  | z :: zs, u :: us, h, g => by
    obtain ⟨c, t, h1, h2⟩ := g 0 u rfl
    have : z = c := Option.some.inj h1
    subst this
    refine .cons ⟨t, h2⟩ (vals_signs zs us (by simpa using h) fun j v hj => ?_)
    exact g (j + 1) v hj
  | [], _ :: _, h, _ => nomatch h
  | _ :: _, [], h, _ => nomatch h
theorem call_listS {X : Cx} (hc : X.calm = true) : CallR X (.type "list") rListS := by
  intro pins s σ H xs us Q I r h
  obtain ⟨zs, rfl, hz, q⟩ := h
  obtain ⟨u, rfl, t, rfl⟩ := vals1 r
  refine call_list_str (hn := by simpa using hz) (I.ok.hd hc) ⟨zs.toArray⟩ t fun h' tk acc' c' hk hS' hacc => ?_
  refine ⟨.ref s.heap.objs.size, _, I.laid (t' := tk) (o := .lst (zs.map fun c => sV [c])) hk (Nat.le_refl _) ?_, rfl, q _ (I.hok.fresh (Nat.le_refl _))⟩
  refine ⟨by rw [List.length_map]; exact hz, acc'.toList, c', vals_signs zs _ (by simpa using hacc.1) fun j v hv => ?_, by simpa using hS'⟩
  obtain ⟨c, u, hc2, rfl⟩ := hacc.2 j v (by simpa using hv)
  exact ⟨c, u, by simpa using hc2, rfl⟩
/-- t >= u of tuples of ints -/
def rGeT (K : PySem.W.Frag) : R2 := fun x y H Q => ∃ (a b : Addr) (ns ms : List Int), x = .ref a ∧ y = .ref b ∧ SqT K H a (ns.map V.int) ∧ SqT K H b (ms.map V.int) ∧
  Q (.bl (Ob.lexAt (fun j => decide (ns.getD j 0 = ms.getD j 0)) (fun j => decide (ms.getD j 0 ≤ ns.getD j 0)) (decide (ns.length ≥ ms.length)) 0 (min ns.length ms.length))) H
theorem op_geT {X : Cx} (hu : X.A.units < cLine) : OpR X (compareOp .GtE) (rGeT X.K) := by
  intro pins s σ H x y v u Q I rx ry h
  obtain ⟨a, b, ns, ms, rfl, rfl, ha, hb, q⟩ := h
  cases rx
  cases ry
  obtain ⟨its, r1, p1, _⟩ := I.tuple ha
  obtain ⟨its2, r2, p2, _⟩ := I.tuple hb
  have i1 : IntsAre its ns := Vals.ints r1
  have i2 : IntsAre its2 ms := Vals.ints r2
  have e1 : its.toArray.size = ns.length := by rw [List.size_toArray]; exact i1.length
  have e2 : its2.toArray.size = ms.length := by rw [List.size_toArray]; exact i2.length
  have at1 : ∀ j (h1 : j < its.toArray.size), ∃ t, its.toArray[j] = .int (ns.getD j 0) t := fun j h1 => PyProof.Rows.IntsAre.int_at i1 _ _ (by simp at h1; simp [h1])
  have at2 : ∀ j (h1 : j < its2.toArray.size), ∃ t, its2.toArray[j] = .int (ms.getD j 0) t := fun j h1 => PyProof.Rows.IntsAre.int_at i2 _ _ (by simp at h1; simp [h1])
  have R := Ob.RcOp.tuples_ge (A := X.A) (s := s) (e := fun j => decide (ns.getD j 0 = ms.getD j 0)) (r := fun j => decide (ms.getD j 0 ≤ ns.getD j 0)) p1 p2 hu (fun j h1 h2 => by
    obtain ⟨t, et⟩ := at1 j h1
    obtain ⟨t', et'⟩ := at2 j h2
    rw [et, et']
    have z : (ns.getD j 0 == ms.getD j 0) = decide (ns.getD j 0 = ms.getD j 0) := by
      by_cases q : ns.getD j 0 = ms.getD j 0
      · rw [decide_eq_true q]; exact beq_iff_eq.mpr q
      · rw [decide_eq_false q]; exact beq_eq_false_iff_ne.mpr q
    rw [← z]
    exact SeqAt.EqAt.int_int _ _ _ _) (fun j h1 h2 _ => by
    obtain ⟨t, et⟩ := at1 j h1
    obtain ⟨t', et'⟩ := at2 j h2
    rw [et, et']
    exact Ob.RcOp.ge_int _ _ _ _)
  rw [e1, e2] at R
  have z : wpAny (model X.prog X.w) X.A (compareOp .GtE (.ref a) (.ref b)) (EP X pins σ Q) X.xe s := R X.prog X.w X.xe (EP X pins σ Q) ⟨.bl _, H, I, rfl, q⟩
  exact z
theorem ge_pair (a b c d : Nat) : Ob.lexAt (fun j => decide (([(a : Int), (b : Int)] : List Int).getD j 0 = ([(c : Int), (d : Int)] : List Int).getD j 0)) (fun j => decide (([(c : Int), (d : Int)] : List Int).getD j 0 ≤ ([(a : Int), (b : Int)] : List Int).getD j 0)) (decide (2 ≥ 2)) 0 (min 2 2) = decide (c < a ∨ (a = c ∧ d ≤ b)) := by
  show Ob.lexAt _ _ _ 0 2 = _
  rw [Ob.lexAt_succ, Ob.lexAt_succ, Ob.lexAt_zero]
  show (if decide ((a : Int) = (c : Int)) = true then (if decide ((b : Int) = (d : Int)) = true then decide (2 ≥ 2) else decide ((d : Int) ≤ (b : Int))) else decide ((c : Int) ≤ (a : Int))) = _
  by_cases h : (a : Int) = (c : Int)
  · rw [decide_eq_true h, if_pos rfl]
    by_cases h2 : (b : Int) = (d : Int)
    · rw [decide_eq_true h2, if_pos rfl, decide_eq_true (show c < a ∨ (a = c ∧ d ≤ b) by omega)]; rfl
    · rw [decide_eq_false h2, if_neg Bool.false_ne_true]
      by_cases h3 : (d : Int) ≤ (b : Int)
      · rw [decide_eq_true h3, decide_eq_true (show c < a ∨ (a = c ∧ d ≤ b) by omega)]
      · rw [decide_eq_false h3, decide_eq_false (show ¬ (c < a ∨ (a = c ∧ d ≤ b)) by omega)]
  · rw [decide_eq_false h, if_neg Bool.false_ne_true]
    by_cases h3 : (c : Int) ≤ (a : Int)
    · rw [decide_eq_true h3, decide_eq_true (show c < a ∨ (a = c ∧ d ≤ b) by omega)]
    · rw [decide_eq_false h3, decide_eq_false (show ¬ (c < a ∨ (a = c ∧ d ≤ b)) by omega)]
/-! ### text times int -/
theorem op_mul_str {X : Cx} : OpR X (binaryOp .Mult) (fun x y H Q => ∃ z n, x = .str z ∧ y = .int n ∧ MulOk z n ∧ Q (.str (Txt.mul z n)) H) := by
  intro pins s σ H x y v u Q I rx ry h
  obtain ⟨z, n, rfl, rfl, hm, q⟩ := h
  obtain ⟨t, rfl⟩ := rx
  obtain ⟨t', rfl⟩ := ry
  exact SB.mul hm fun t' k => ⟨.str (Txt.mul z n), H, I.tok _, ⟨_, rfl⟩, q⟩
theorem mul_ok {z : Str} {n : Int} (h2 : 2 ≤ n) (hn : n ≤ 1000) (hz : z.length ≤ 10000) : MulOk z n := by
  refine ⟨?_, fun _ _ => ?_, fun _ _ => ?_⟩
  · rw [decide_eq_false (by omega), decide_eq_false (by omega)]; rfl
  · have h3 : (9000000 : Int) ≤ (2 ^ 63 - 1) / n := (Int.le_ediv_iff_mul_le (by omega)).mpr (by omega)
    omega
  · have e : n.toNat ≤ 1000 := by omega
    have h4 : z.length * n.toNat ≤ 10000 * 1000 := Nat.mul_le_mul hz e
    show decide (sizeLine < z.length * n.toNat) = false
    exact decide_eq_false (Nat.not_lt.mpr (Nat.le_trans h4 (by decide)))
theorem mul_okN {z : Str} {n : Nat} (hn : n ≤ 1000) (hz : z.length ≤ 10000) : MulOk z (n : Int) := by
  by_cases h : 2 ≤ n
  · exact mul_ok (by omega) (by omega) hz
  · refine ⟨?_, fun h1 h2 => ?_, fun h1 h2 => ?_⟩
    · rw [decide_eq_false (by omega), decide_eq_false (by omega)]; rfl
    · have e : n = 1 := by omega
      subst e
      cases h2
    · have e : n = 1 := by omega
      subst e
      cases h2
theorem foldl_reps (zs : List Nat) : ∀ (n : Nat) (acc : Array Nat), (((List.replicate n zs.toArray).foldl (· ++ ·) acc)).toList = acc.toList ++ (List.replicate n zs).flatten
  | 0, acc => by rw [List.replicate_zero, List.replicate_zero, List.flatten_nil, List.append_nil]; rfl
  | n + 1, acc => by
    rw [List.replicate_succ, List.replicate_succ, List.foldl_cons, foldl_reps zs n, List.flatten_cons, Array.toList_append, List.append_assoc]
theorem mul_mk (zs : List Nat) (hz : zs ≠ []) (n : Nat) : Txt.mul (mkS zs) (n : Int) = mkS (List.replicate n zs).flatten := by
  unfold Txt.mul
  by_cases h0 : n = 0
  · subst h0
    rw [if_pos (by decide), List.replicate_zero, List.flatten_nil]
    rfl
  · rw [if_neg (by omega)]
    have hl : ((mkS zs).length == 0) = false := by
      rw [mkS_len]
      refine beq_eq_false_iff_ne.mpr fun e => hz ?_
      exact List.eq_nil_of_length_eq_zero e
    rw [hl, Bool.or_false]
    by_cases h1 : n = 1
    · subst h1
      rw [if_pos (show (((1 : Nat) : Int) == 1) = true from rfl)]
      show mkS zs = mkS (zs ++ [])
      rw [List.append_nil]
    · rw [if_neg (fun q => h1 (by have := beq_iff_eq.mp q; omega)), Int.toNat_natCast]
      have e := foldl_reps zs n #[]
      have e2 : ((List.replicate n (mkS zs).cps).foldl (· ++ ·) #[]).toList = (List.replicate n zs).flatten := e
      show (⟨_⟩ : Str) = ⟨_⟩
      congr 1
      rw [← e2, Array.toArray_toList]
theorem flat_one1 (c n : Nat) : (List.replicate n [c]).flatten = List.replicate n c := by
  induction n with
  | zero => rfl
  | succ n ih => rw [List.replicate_succ, List.flatten_cons, ih, List.replicate_succ]; rfl
theorem mul_sign (c n : Nat) : Txt.mul (mkS [c]) (n : Int) = mkS (List.replicate n c) := by
  rw [mul_mk [c] (by simp) n, flat_one1]
theorem hash_mk : (("#" : Str)) = mkS [35] := by decide +kernel
end Vf

set_option Elab.async false
set_option linter.all false
set_option maxRecDepth 100000
set_option maxHeartbeats 4000000
namespace Vf
open PySem PySem.Spec PyProof.Rows L2 TL
/-! ### curtains: the program -/
def sgR : Hp → V → List Nat → Prop := fun _ v zs => v = sV zs
theorem sgR.mn : Mn sgR := ⟨fun h _ => h⟩
def PgR : Hp → V → Pg → Prop := TupR sgR
theorem PgR.mn : Mn PgR := TupR.mn sgR.mn
def LkR : Hp → V → List Pg → Prop := TupR PgR
theorem LkR.mn : Mn LkR := TupR.mn PgR.mn
theorem LV.signs {H : Hp} : ∀ {us : List V} {xs : List Rw}, LV (sgR H) us xs → us = xs.map sV := by
  intro us xs h
  refine List.ext_getElem? fun i => ?_
  rw [List.getElem?_map]
  by_cases hi : i < xs.length
  · obtain ⟨x, e, r⟩ := h.2 i _ (List.getElem?_eq_getElem hi)
    rw [e, List.getElem?_eq_getElem hi, show x = sV xs[i] from r]; rfl
  · rw [List.getElem?_eq_none (by rw [h.1]; omega), List.getElem?_eq_none (by omega)]; rfl
theorem LV.of_signs (H : Hp) (xs : List Rw) : LV (sgR H) (xs.map sV) xs := ⟨List.length_map _, fun i r e => ⟨sV r, by rw [List.getElem?_map, e]; rfl, rfl⟩⟩
theorem PgR.iff {H : Hp} {v : V} {p : Pg} : PgR H v p ↔ ∃ a, v = .ref a ∧ H a = some (.tup (p.map sV)) := by
  constructor
  · rintro ⟨a, us, e, h1, h2⟩
    rw [h2.signs] at h1
    exact ⟨a, e, h1⟩
  · rintro ⟨a, e, h⟩
    exact ⟨a, _, e, h, LV.of_signs H p⟩
def PgOk (p : Pg) : Prop := p.length ≤ 200 ∧ ∀ r ∈ p, r.length ≤ 200
def LkOk (l : List Pg) : Prop := l.length ≤ 200 ∧ ∀ p ∈ l, PgOk p
section
variable {P : Program} {w : World} {K : PySem.W.Frag} {mg : Str → Option Value} {base : Heap}
def spWhole : Sp := fun vs H Q _ => ∃ zs : Rw, vs = [sV zs] ∧ zs.length ≤ 1000 ∧ Q (sV (wholeN zs)) H
theorem ok_whole (T : Txt K mg) : FnOk P w K mg base CX0 1 T.a_whole T.d_whole ["row"] spWhole := by
  refine T.D_whole.F.ok sc_whole (fun vs H Q E h => ?_) (fun cdv A outer s H vs Q E hr h => ?_)
  · obtain ⟨zs, rfl, _⟩ := h
    rfl
  · obtain ⟨zs, rfl, hz, q⟩ := h
    refine ⟨_, (pss_one (ps_ret (pe_op op_mul_str (pe_glob (v := .str "#") (by rfl) T.m_COVER ⟨_, rfl⟩) (pe_callB call_len_str (by rfl) T.n_len PySem.boot_len (pa_cons (pv 0) pa_nil))))), ?_⟩
    refine ⟨_, rfl, mkS zs, rfl, by rw [mkS_len]; exact big_ok (by omega), ?_⟩
    refine ⟨_, _, rfl, rfl, by rw [mkS_len]; exact mul_okN (by omega) (by decide), ?_⟩
    rw [hash_mk, mkS_len, mul_sign]
    exact q
def spWholeP : Sp := fun vs H Q _ => ∃ (v : V) (p : Pg), vs = [v] ∧ PgR H v p ∧ PgOk p ∧ ∀ H' u, Same H H' → PgR H' u (p.map wholeN) → Q u H'
theorem ok_wholeP (T : Txt K mg) : FnOk P w K mg base CX0 2 T.a_whole_page T.d_whole_page ["page"] spWholeP := by
  have G_whole : FnOk P w K mg base CX0 1 T.a_whole T.d_whole ["row"] spWhole := ok_whole T
  refine T.D_whole_page.F.ok sc_whole_page (fun vs H Q E h => ?_) (fun cdv A outer s H vs Q E hr h => ?_)
  · obtain ⟨v, p, rfl, _⟩ := h
    rfl
  · obtain ⟨v, p, rfl, hp, ⟨hl, hok⟩, q⟩ := h
    obtain ⟨a, rfl, ea⟩ := PgR.iff.mp hp
    refine ⟨_, (pss_one (ps_ret (pe_callTy call_tuple_of (by rfl) T.n_tuple (by decide +kernel) (pa_cons (pe_lc (own := [("row", 1)]) (g := gName 1) (tt := tYes) rfl sc_whole_page.nd (pi_tup (pv 0)) (blkOk_by (own := [("row", 1)]) (N := ["page", "row"]) (sc := (defScope s_whole_page)) (by decide +kernel)) (fun _ _ _ _ _ => (pg_name (i := 1) sc_whole_page.nd rfl (.inl rfl))) (fun _ _ _ _ _ => pts_nil) (fun _ _ _ _ _ => (pe_call G_whole (hr.mono (by decide)) (by rfl) T.D_whole.G T.D_whole.F.kp T.D_whole.B .nil pass0 (pa_cons (pv 1) pa_nil)))) pa_nil)))), ?_⟩
    refine ⟨_, rfl, a, rfl, ⟨_, SqT.of ea⟩, fun D nD => ?_⟩
    refine lc_it (walk_tup (K := K) (a := a) (xs := p.map sV)) (fun i H' => H' D = some (.lst (((p.take i).map wholeN).map sV)) ∧ Same H H') ⟨upd_same, same_upd (Same.refl H) nD⟩ ?_ ?_ ?_
    · rintro i H' _ ⟨_, k⟩
      exact SqT.of (k _ _ ea)
    · rintro i x H1 H2 hi ⟨eD, k1⟩ ⟨rfl, hx⟩
      rw [List.length_map] at hi
      rw [List.getElem?_map, List.getElem?_eq_getElem hi] at hx
      have hx := (Option.some.inj hx).symm
      subst hx
      refine ⟨rfl, ?_⟩
      have hz := hok _ (List.getElem_mem hi)
      refine ⟨_, rfl, p[i], rfl, by omega, _, eD, szN (by rw [List.length_map, List.length_map, List.length_take]; omega), ?_, same_mut k1 nD⟩
      rw [take_one (List.getElem?_eq_getElem hi), List.map_append, List.map_append]
      exact upd_same
    · rintro H1 ⟨eD, k1⟩
      rw [List.length_map, List.take_length] at eD
      refine ⟨D, _, rfl, .inl ⟨SqL.of eD, fun r nr => ?_⟩⟩
      exact q _ _ (same_upd k1 nr) (PgR.iff.mpr ⟨r, rfl, upd_same⟩)
def spHasC : Sp := fun vs H Q _ => ∃ (a : Addr) (p : Pg), vs = [.ref a] ∧ (H a = some (.tup (p.map sV)) ∨ H a = some (.lst (p.map sV))) ∧ p.length ≤ 200 ∧ ∀ H', Same H H' → Q (.bl (p.any hasC)) H'
theorem in_hash (zs : Rw) : decide ((35 : Nat) ∈ (mkS zs).cps.toList) = hasC zs := rfl
theorem ok_hasC (T : Txt K mg) : FnOk P w K mg base CX0 1 T.a_has_cover T.d_has_cover ["page"] spHasC := by
  refine T.D_has_cover.F.ok sc_has_cover (fun vs H Q E h => ?_) (fun cdv A outer s H vs Q E hr h => ?_)
  · obtain ⟨a, p, rfl, _⟩ := h
    rfl
  · obtain ⟨a, p, rfl, hp, hl, q⟩ := h
    refine ⟨_, (pss_one (ps_ret (pe_callB (cr_any (by rfl)) (by rfl) T.n_any (by decide +kernel) (pa_cons (pe_lc (own := [("row", 1)]) (g := gName 1) (tt := tYes) rfl sc_has_cover.nd (pi_or (pi_list (pv 0)) (pi_tup (pv 0))) (blkOk_by (own := [("row", 1)]) (N := ["page", "row"]) (sc := (defScope s_has_cover)) (by decide +kernel)) (fun _ _ _ _ _ => (pg_name (i := 1) sc_has_cover.nd rfl (.inl rfl))) (fun _ _ _ _ _ => pts_nil) (fun _ _ _ _ _ => (pe_cmpR op_in_sign (pe_glob (v := .str "#") (by rfl) T.m_COVER ⟨_, rfl⟩) (pv 1) (by rfl)))) pa_nil)))), ?_⟩
    have stp : ∀ (D : Addr), H D = none → ∀ (i : Nat) (x : V) (H1 : Hp), i < (p.map sV).length → (H1 D = some (.lst ((p.take i).map fun r => V.bl (hasC r))) ∧ Same H H1) → (p.map sV)[i]? = some x → ∃ r, x = sV r ∧ ∃ acc, H1 D = some (.lst acc) ∧ acc.length < sizeLine ∧ (upd H1 D (.lst (acc ++ [V.bl (hasC r)])) D = some (.lst ((p.take (i + 1)).map fun r => V.bl (hasC r))) ∧ Same H (upd H1 D (.lst (acc ++ [V.bl (hasC r)])))) := by
      rintro D nD i x H1 hi ⟨eD, k1⟩ hx
      rw [List.length_map] at hi
      rw [List.getElem?_map, List.getElem?_eq_getElem hi] at hx
      refine ⟨p[i], (Option.some.inj hx).symm, _, eD, szN (by rw [List.length_map, List.length_take]; omega), ?_, same_mut k1 nD⟩
      rw [take_one (List.getElem?_eq_getElem hi), List.map_append]
      exact upd_same
    have fin : ∀ (D : Addr) (H1 : Hp), (H1 D = some (.lst ((p.take (p.map sV).length).map fun r => V.bl (hasC r))) ∧ Same H H1) → ∃ (a : Addr) (bs : List Bool), [V.ref D] = [V.ref a] ∧ SqL K H1 a (bs.map V.bl) ∧ Q (.bl (bs.any id)) H1 := by
      rintro D H1 ⟨eD, k1⟩
      rw [List.length_map, List.take_length] at eD
      refine ⟨D, p.map hasC, rfl, by rw [List.map_map]; exact SqL.of eD, ?_⟩
      rw [List.any_map]
      exact q _ k1
    rcases hp with hp | hp
    · refine .inr ⟨_, rfl, a, rfl, ⟨_, SqT.of hp⟩, fun D nD => ?_⟩
      refine lc_it (walk_tup (K := K) (a := a) (xs := p.map sV)) (fun i H' => H' D = some (.lst ((p.take i).map fun r => V.bl (hasC r))) ∧ Same H H') ⟨upd_same, same_upd (Same.refl H) nD⟩ (fun i H' _ h => SqT.of (h.2 _ _ hp)) ?_ (fun H1 h => fin D H1 h)
      rintro i x H1 H2 hi h1 ⟨rfl, hx⟩
      obtain ⟨r, rfl, hh⟩ := stp D nD i x H2 hi h1 hx
      exact ⟨rfl, _, rfl, 35, mkS r, by rw [hash_mk]; rfl, rfl, hh⟩
    · refine .inl ⟨_, rfl, a, rfl, ⟨_, SqL.of hp⟩, fun D nD => ?_⟩
      refine lc_it (walk_list (K := K) (a := a) (xs := p.map sV)) (fun i H' => H' D = some (.lst ((p.take i).map fun r => V.bl (hasC r))) ∧ Same H H') ⟨upd_same, same_upd (Same.refl H) nD⟩ (fun i H' _ h => SqL.of (h.2 _ _ hp)) ?_ (fun H1 h => fin D H1 h)
      rintro i x H1 H2 hi h1 ⟨rfl, hx⟩
      obtain ⟨r, rfl, hh⟩ := stp D nD i x H2 hi h1 hx
      exact ⟨rfl, _, rfl, 35, mkS r, by rw [hash_mk]; rfl, rfl, hh⟩
end
end Vf

set_option Elab.async false
set_option linter.all false
set_option maxRecDepth 100000
set_option maxHeartbeats 4000000
namespace Vf
open PySem PySem.Spec PyProof.Rows L2 TL
theorem take_min {α : Type} (zs : List α) (a b n : Nat) : ((zs.drop a).take (min b zs.length - a)) = (zs.drop a).take (b - a) := by
  by_cases h : b ≤ zs.length
  · rw [Nat.min_eq_left h]
  · rw [Nat.min_eq_right (by omega), List.take_of_length_le (by rw [List.length_drop]; exact Nat.le_refl _), List.take_of_length_le (by rw [List.length_drop]; omega)]
theorem cut_near {zs : Rw} {x n : Nat} (hx : x < zs.length) {lo : Int} (h : lo = ((x - n : Nat) : Int)) {hi : Int} (h2 : hi = ((x + n + 1 : Nat) : Int)) : cutS (mkS zs) (some lo) (some hi) = mkS ((zs.drop (x - n)).take (x + n + 1 - (x - n))) := by
  subst h h2
  unfold cutS
  rw [HT.sIx_nat, HT.sIx_nat, mkS_len, Nat.min_eq_left (show x - n ≤ zs.length by omega)]
  show mkS ((zs.drop (x - n)).take (min (x + n + 1) zs.length - (x - n))) = _
  rw [take_min zs _ _ 0]
theorem near_has (n : Nat) (zs : Rw) (x : Nat) : hasC ((zs.drop (x - n)).take (x + n + 1 - (x - n))) = nearB n zs x := by
  unfold hasC
  cases e : nearB n zs x with
  | true => exact decide_eq_true (near_cut.mp e)
  | false => exact decide_eq_false fun z => by rw [near_cut.mpr z] at e; cases e
theorem mkS_get (zs : List Nat) (i : Nat) : (mkS zs).cps[i]? = zs[i]? := by
  show zs.toArray[i]? = _
  simp
theorem range_take {n i : Nat} (h : i < n) : (List.range n).take (i + 1) = (List.range n).take i ++ [i] := take_one (List.getElem?_range h)
theorem flat_sgs : ∀ zs : List Nat, (zs.map fun c => [c]).flatten = zs
  | [] => rfl
  | c :: zs => by rw [List.map_cons, List.flatten_cons, flat_sgs zs]; rfl
theorem join_sgs (zs : List Nat) : Txt.join ("" : Str) ((zs.map fun c => [c]).map mkS) = mkS zs := by
  rw [join_mk, flat_sgs]
theorem sgs_V (zs : List Nat) : zs.map (fun c => sV [c]) = ((zs.map fun c => [c]).map mkS).map V.str := by
  rw [List.map_map, List.map_map]; rfl
theorem sgs_sz {zs : List Nat} (h : zs.length ≤ 1000) : (((zs.map fun c => [c]).map mkS).map (·.length)).sum + ((zs.map fun c => [c]).map mkS).length * (("" : Str)).length ≤ 16777216 := by
  rw [sum_len, flat_sgs, show (("" : Str)).length = 0 from by rw [empty_mk, mkS_len]; rfl]; exact big_ok (by omega)
section
variable {P : Program} {w : World} {K : PySem.W.Frag} {mg : Str → Option Value} {base : Heap}
def spRowN (f : Nat → Rw → Rw) : Sp := fun vs H Q _ => ∃ (zs : Rw) (n : Nat), vs = [sV zs, nV n] ∧ zs.length ≤ 1000 ∧ 1 ≤ n ∧ n ≤ 1000 ∧ ∀ H', Same H H' → Q (sV (f n zs)) H'
theorem ok_wide (T : Txt K mg) : FnOk P w K mg base CX0 1 T.a_wide_row T.d_wide_row ["row", "distance"] (spRowN wideN) := by
  refine T.D_wide_row.F.ok sc_wide_row (fun vs H Q E h => ?_) (fun cdv A outer s H vs Q E hr h => ?_)
  · obtain ⟨zs, n, rfl, _⟩ := h
    rfl
  · obtain ⟨zs, n, rfl, hz, n1, hn, q⟩ := h
    refine ⟨_, (pss_one (ps_ret (pe_join pe_str (pe_lc (own := [("at", 2), ("sign", 3)]) (g := (gTup K 2 (gCons (gName 2) (gCons (gName 3) gNil)))) (tt := tYes) rfl sc_wide_row.nd (pi_enumS (by rfl) T.n_enumerate (pa_cons (pv 0) pa_nil)) (blkOk_by (own := [("at", 2), ("sign", 3)]) (N := ["row", "distance", "at", "sign"]) (sc := (defScope s_wide_row)) (by decide +kernel)) (fun _ _ _ _ _ => (pg_tup (by rfl) (pgs_cons (pg_name (i := 2) sc_wide_row.nd rfl (.inl rfl)) (pgs_cons (pg_name (i := 3) sc_wide_row.nd rfl (.inl rfl)) pgs_nil)))) (fun _ _ _ _ _ => pts_nil) (fun _ _ _ _ _ => (pe_ifExp (pt_cmpR op_in_sign (pe_glob (v := .str "#") (by rfl) T.m_COVER ⟨_, rfl⟩) (pe_slice sl_str (pv 0) (po_some (pe_callB (call_max2 (by rfl)) (by rfl) T.n_max (by decide +kernel) (pa_cons pe_int (pa_cons (pe_op op_sub (pv 2) (pv 1)) pa_nil)))) (po_some (pe_op op_add (pe_op op_add (pv 2) (pv 1)) pe_int))) (by rfl)) (pe_glob (v := .str "#") (by rfl) T.m_COVER ⟨_, rfl⟩) (pv 3))))))), ?_⟩
    refine ⟨⟨_, rfl⟩, _, rfl, mkS zs, rfl, fun D nD => ?_⟩
    refine lc_it walk_enumS (fun i H' => H' D = some (.lst (((List.range zs.length).take i).map fun x => sV [if nearB n zs x = true then 35 else zs.getD x 0])) ∧ Same H H') ⟨upd_same, same_upd (Same.refl H) nD⟩ (fun _ _ _ _ => trivial) ?_ ?_
    · rintro i x H1 H2 hi ⟨eD, k1⟩ ⟨Tu, c, rfl, nT, rfl, hc⟩
      have hi : i < zs.length := hi
      have hc : zs[i]? = some c := by rw [← mkS_get]; exact hc
      have ec : zs.getD i 0 = c := getD_of hc
      have k2 := same_upd (o := .tup [.int (i : Nat), .str ⟨#[c]⟩]) k1 nT
      have eD2 : upd H1 Tu (.tup [.int (i : Nat), .str ⟨#[c]⟩]) D = _ := (upd_ne (ne_of_none eD nT)).trans eD
      have eT : upd H1 Tu (.tup [.int (i : Nat), .str ⟨#[c]⟩]) Tu = _ := upd_same
      generalize upd H1 Tu (.tup [.int (i : Nat), .str ⟨#[c]⟩]) = H3 at k2 eD2 eT
      refine ⟨Tu, _, rfl, SqT.of eT, rfl, ?_⟩
      refine ⟨_, _, rfl, _, _, rfl, rfl, rfl, ?_⟩
      refine ⟨_, rfl, _, rfl, _, rfl, _, _, rfl, rfl, _, _, rfl, _, rfl, _, rfl, _, rfl, _, _, rfl, rfl, _, _, rfl, rfl, _, rfl, mkS zs, rfl, by rw [mkS_len]; exact big_ok (by omega), ?_⟩
      rw [cut_near (n := n) hi (by split <;> omega) (by omega)]
      refine ⟨35, _, by rw [hash_mk]; rfl, rfl, _, rfl, ?_⟩
      rw [in_hash, near_has]
      have ac : ∀ b : Nat, b = (if nearB n zs i = true then 35 else zs.getD i 0) → ∃ acc, H3 D = some (.lst acc) ∧ acc.length < sizeLine ∧ (upd H3 D (.lst (acc ++ [sV [b]])) D = some (.lst (((List.range zs.length).take (i + 1)).map fun x => sV [if nearB n zs x = true then 35 else zs.getD x 0])) ∧ Same H (upd H3 D (.lst (acc ++ [sV [b]])))) := fun b hb => by
        refine ⟨_, eD2, szN (by rw [List.length_map, List.length_take, List.length_range]; omega), ?_, same_mut k2 nD⟩
        rw [range_take hi, List.map_append, hb]
        exact upd_same
      by_cases h : nearB n zs i = true
      · rw [h]
        have := ac 35 (by rw [if_pos h])
        rw [show (sV [35] : V) = V.str ("#" : Str) from by rw [hash_mk]; rfl] at this
        exact this
      · rw [Bool.eq_false_iff.mpr h]
        exact ⟨_, rfl, ac c (by rw [if_neg h, ec])⟩
    · rintro H1 ⟨eD, k1⟩
      have eD : H1 D = some (.lst ((wideN n zs).map fun c => sV [c])) := by
        rw [eD, show (mkS zs).cps.size = zs.length from rfl, List.take_of_length_le (by rw [List.length_range]; exact Nat.le_refl _)]
        unfold wideN
        rw [List.map_map]; rfl
      refine ⟨_, D, ((wideN n zs).map fun c => [c]).map mkS, rfl, rfl, .inl (SqL.of (by rw [eD, sgs_V])), sgs_sz (by unfold wideN; rw [List.length_map, List.length_range]; exact hz), ?_⟩
      rw [join_sgs]
      exact q _ k1
theorem dec_text (zs ys : List Nat) : decide (V.str (mkS zs) = V.str (mkS ys)) = decide (zs = ys) := by
  by_cases h : zs = ys
  · subst h; rw [decide_eq_true (Eq.refl zs)]; exact decide_eq_true (Eq.refl _)
  · rw [decide_eq_false h]
    exact decide_eq_false fun q => h (mkS_inj (V.str.inj q))
theorem dec_blank (zs : List Nat) (z : Str) (h : z = mkS (List.replicate zs.length 32)) : decide (V.str (mkS zs) = V.str z) = blankN zs := by
  rw [h, dec_text]; rfl
def evT (n : Nat) (zs : Rw) (i : Nat) : Rw := ((List.range zs.length).take i).map fun x => if evB n (evS n zs x) (zs.getD x 0) = true then 35 else zs.getD x 0
theorem ok_even (T : Txt K mg) : FnOk P w K mg base CX0 1 T.a_even_row T.d_even_row ["row", "measure"] (spRowN evenN) := by
  refine T.D_even_row.F.ok sc_even_row (fun vs H Q E h => ?_) (fun cdv A outer s H vs Q E hr h => ?_)
  · obtain ⟨zs, n, rfl, _⟩ := h
    rfl
  · obtain ⟨zs, n, rfl, hz, n1, hn, q⟩ := h
    refine ⟨_, (pss_cons (ps_set (i := 2) sc_even_row.nd rfl (.inl rfl) (pe_lst pa_nil))
      (pss_cons (ps_set (i := 3) sc_even_row.nd rfl (.inl rfl) pe_int)
      (pss_cons (ps_for PassesOwn.never rfl (pi_str (pv 0)) (pg_name (i := 4) sc_even_row.nd rfl (.inl rfl)) (pss_one (ps_if (PW.pt (pw_or (pt_cmpR op_eq (pv 4) (pe_glob (v := .str "#") (by rfl) T.m_COVER ⟨_, rfl⟩) (nomark _)) (pw_or1 (PW.pt (pw_and (pt_cmpR op_gt (pv 3) pe_int (nomark _)) (pw_and1 (pt_cmpR op_lt (pv 3) (pv 1) (nomark _)))))))) (pss_cons (ps_set (i := 3) sc_even_row.nd rfl (.inl rfl) (pe_ifExp (pt_cmpR op_lt (pv 3) (pv 1) (nomark _)) (pe_op op_add (pv 3) pe_int) pe_int))
      (pss_one (ps_expr (pe_bm PySem.F.plainAttrs_list PySem.F.slot_list_append PySem.F.type_list_append mt_append (pv 2) (pa_cons (pe_glob (v := .str "#") (by rfl) T.m_COVER ⟨_, rfl⟩) pa_nil))))) (pss_cons (ps_set (i := 3) sc_even_row.nd rfl (.inl rfl) pe_int)
      (pss_one (ps_expr (pe_bm PySem.F.plainAttrs_list PySem.F.slot_list_append PySem.F.type_list_append mt_append (pv 2) (pa_cons (pv 4) pa_nil))))))))
      (pss_one (ps_ret (pe_join pe_str (pv 2))))))), ?_⟩
    refine ⟨Nat.zero_le _, fun D nD => ?_⟩
    refine ⟨_, rfl, mkS zs, rfl, ?_⟩
    refine for_it walk_str (fun i σ' H' => ∃ x4 : Option V, σ' = [some (sV zs), some (nV n), some (.ref D), some (nV (evS n zs i)), x4] ∧ Same H H' ∧ H' D = some (.lst ((evT n zs i).map fun c => sV [c]))) ⟨none, rfl, same_upd (Same.refl H) nD, upd_same⟩ (fun _ _ _ _ _ => trivial) ?_ ?_
    · rintro i x σ1 H1 H2 hi ⟨x4, rfl, k1, eD⟩ ⟨rfl, c, hc, rfl⟩
      have hi : i < zs.length := hi
      have hc : zs[i]? = some c := by rw [← mkS_get]; exact hc
      have ec : zs.getD i 0 = c := getD_of hc
      have es := evS_succ (n := n) hi
      have el := ev_le n1
      have rT : evT n zs (i + 1) = evT n zs i ++ [if evB n (evS n zs i) c = true then 35 else c] := by
        unfold evT
        rw [range_take hi, List.map_append, ← ec]; rfl
      have lT : (evT n zs i).length ≤ 1000 := by unfold evT; rw [List.length_map, List.length_take, List.length_range]; omega
      rw [ec] at es
      unfold evStep at es
      have yes : evB n (evS n zs i) c = true → evS n zs (i + 1) = (if evS n zs i < n then evS n zs i + 1 else 1) := fun h => by rw [es, if_pos h]
      generalize evS n zs i = r at es rT yes
      have ac : ∀ (b : Nat) (x3 : V) (x4 : Option V), x3 = nV (evS n zs (i + 1)) → b = (if evB n r c = true then 35 else c) → ∃ x4' : Option V, [some (sV zs), some (nV n), some (.ref D), some x3, x4] = [some (sV zs), some (nV n), some (.ref D), some (nV (evS n zs (i + 1))), x4'] ∧ Same H (upd H2 D (.lst ((evT n zs i).map (fun c => sV [c]) ++ [sV [b]]))) ∧ upd H2 D (.lst ((evT n zs i).map (fun c => sV [c]) ++ [sV [b]])) D = some (.lst ((evT n zs (i + 1)).map fun c => sV [c])) := fun b x3 x4 h3 hb => by
        refine ⟨x4, by rw [h3], same_mut k1 nD, ?_⟩
        rw [rT, List.map_append, ← hb]
        exact upd_same
      have ln : ((evT n zs i).map fun c => sV [c]).length < sizeLine := szN (by rw [List.length_map]; omega)
      have ac35 := ac 35
      rw [show (sV [35] : V) = V.str ("#" : Str) from by rw [hash_mk]; rfl] at ac35
      by_cases h35 : c = 35
      · have hev : evB n r c = true := by unfold evB; rw [decide_eq_true h35, Bool.true_or]
        refine ⟨_, rfl, rfl, true, congrArg V.bl ((dec_sign c _ 35 hash_mk).trans (decide_eq_true h35)), ?_⟩
        refine ⟨_, rfl, _, rfl, _, _, rfl, rfl, _, rfl, ?_⟩
        by_cases hrn : r < n
        · rw [decide_eq_true (show ((r : Nat) : Int) < ((n : Nat) : Int) by omega)]
          have e := yes hev
          rw [if_pos hrn] at e
          exact ⟨_, rfl, _, _, rfl, rfl, _, rfl, .inl ⟨rfl, _, SqL.of eD⟩, D, _, _, rfl, rfl, eD, ln, ac35 _ _ (by rw [e]; rfl) (by rw [if_pos hev])⟩
        · rw [decide_eq_false (show ¬ ((r : Nat) : Int) < ((n : Nat) : Int) by omega)]
          have e := yes hev
          rw [if_neg hrn] at e
          exact ⟨_, rfl, .inl ⟨rfl, _, SqL.of eD⟩, D, _, _, rfl, rfl, eD, ln, ac35 _ _ (by rw [e]; rfl) (by rw [if_pos hev])⟩
      · refine ⟨_, rfl, rfl, false, congrArg V.bl ((dec_sign c _ 35 hash_mk).trans (decide_eq_false h35)), ?_⟩
        by_cases hr : 0 < r
        · refine ⟨_, rfl, _, _, rfl, rfl, true, bl_of (decide_eq_true (show (0 : Int) < ((r : Nat) : Int) by omega)), ?_⟩
          by_cases hrn : r < n
          · have hev : evB n r c = true := by unfold evB; rw [decide_eq_true hr, decide_eq_true hrn]; simp
            have e := yes hev
            rw [if_pos hrn] at e
            refine ⟨_, rfl, _, rfl, _, _, rfl, rfl, true, bl_of (decide_eq_true (show ((r : Nat) : Int) < ((n : Nat) : Int) by omega)), ?_⟩
            refine ⟨_, rfl, _, rfl, _, _, rfl, rfl, true, bl_of (decide_eq_true (show ((r : Nat) : Int) < ((n : Nat) : Int) by omega)), ?_⟩
            exact ⟨_, rfl, _, _, rfl, rfl, _, rfl, .inl ⟨rfl, _, SqL.of eD⟩, D, _, _, rfl, rfl, eD, ln, ac35 _ _ (by rw [e]; rfl) (by rw [if_pos hev])⟩
          · have hev : evB n r c = false := by unfold evB; rw [decide_eq_false h35, decide_eq_false hrn]; simp
            rw [if_neg (by rw [hev]; decide)] at es
            have ac2 := ac c
            refine ⟨_, rfl, _, rfl, _, _, rfl, rfl, false, bl_of (decide_eq_false (show ¬ ((r : Nat) : Int) < ((n : Nat) : Int) by omega)), ?_⟩
            exact ⟨_, rfl, .inl ⟨rfl, _, SqL.of eD⟩, _, rfl, D, _, _, rfl, rfl, eD, ln, ac2 _ _ (by rw [es]; rfl) (by rw [if_neg (by rw [hev]; decide)])⟩
        · have hev : evB n r c = false := by unfold evB; rw [decide_eq_false h35, decide_eq_false hr]; simp
          rw [if_neg (by rw [hev]; decide)] at es
          have ac2 := ac c
          refine ⟨_, rfl, _, _, rfl, rfl, false, bl_of (decide_eq_false (show ¬ (0 : Int) < ((r : Nat) : Int) by omega)), ?_⟩
          exact ⟨_, rfl, .inl ⟨rfl, _, SqL.of eD⟩, _, rfl, D, _, _, rfl, rfl, eD, ln, ac2 _ _ (by rw [es]; rfl) (by rw [if_neg (by rw [hev]; decide)])⟩
    · rintro σ1 H1 ⟨x4, rfl, k1, eD⟩
      have eT : evT n zs zs.length = evenN n zs := by
        unfold evT evenN
        rw [List.take_of_length_le (by rw [List.length_range]; exact Nat.le_refl _)]
      have eD : H1 D = some (.lst ((evenN n zs).map fun c => sV [c])) := by rw [← eT]; exact eD
      refine ⟨⟨_, rfl⟩, _, rfl, _, D, ((evenN n zs).map fun c => [c]).map mkS, rfl, rfl, .inl (SqL.of (by rw [eD, sgs_V])), sgs_sz (by unfold evenN; rw [List.length_map, List.length_range]; exact hz), ?_⟩
      rw [join_sgs]
      exact q _ k1
end
end Vf

set_option Elab.async false
set_option linter.all false
set_option maxRecDepth 100000
set_option maxHeartbeats 4000000
namespace Vf
open PySem PySem.Spec PyProof.Rows L2 TL
theorem blkS_at {l : Pg} {i : Nat} {r : Rw} (h : l[i]? = some r) : blkS (l.take (i + 1)) = blkF (blkS (l.take i)) r := by rw [take_one h, blkS_snoc]
theorem blkS_len (l : Pg) : (blkS l).1.length + (blkS l).2.length = l.length := (b_inv l).len
theorem blkS_rows {l : Pg} {b : Nat} (h : ∀ r ∈ l, r.length ≤ b) : ∀ r ∈ (blkS l).2, r.length ≤ b := by
  intro r hr
  obtain ⟨k, hk, e⟩ := mem_at hr
  have e3 := (b_inv l).run k hk
  have hl := (b_inv l).len
  rw [getD_of e] at e3
  rw [e3]
  exact h _ (getD_mem (by omega))
section
variable {P : Program} {w : World} {K : PySem.W.Frag} {mg : Str → Option Value} {base : Heap}
def spBlock : Sp := fun vs H Q _ => ∃ (a : Addr) (p : Pg), vs = [.ref a] ∧ H a = some (.lst (p.map sV)) ∧ PgOk p ∧ ∀ H' b, Same H H' → H' b = some (.lst ((blockN p).map sV)) → Q (.ref b) H'
theorem ok_block (T : Txt K mg) : FnOk P w K mg base CX0 2 T.a_block T.d_block ["rows"] spBlock := by
  have G_whole : FnOk P w K mg base CX0 1 T.a_whole T.d_whole ["row"] spWhole := ok_whole T
  have G_has_cover : FnOk P w K mg base CX0 1 T.a_has_cover T.d_has_cover ["page"] spHasC := ok_hasC T
  refine T.D_block.F.ok sc_block (fun vs H Q E h => ?_) (fun cdv A outer s H vs Q E hr h => ?_)
  · obtain ⟨a, p, rfl, _⟩ := h
    rfl
  · obtain ⟨a, p, rfl, ea, ⟨hl, hok⟩, q⟩ := h
    refine ⟨_, (pss_one (ps_ret (pe_ifExp (pt_val (pe_call G_has_cover (hr.mono (by decide)) (by rfl) T.D_has_cover.G T.D_has_cover.F.kp T.D_has_cover.B .nil pass0 (pa_cons (pv 0) pa_nil))) (pe_lc (own := [("row", 1)]) (g := gName 1) (tt := tYes) rfl sc_block.nd (pi_list (pv 0)) (blkOk_by (own := [("row", 1)]) (N := ["rows", "row"]) (sc := (defScope s_block)) (by decide +kernel)) (fun _ _ _ _ _ => (pg_name (i := 1) sc_block.nd rfl (.inl rfl))) (fun _ _ _ _ _ => pts_nil) (fun _ _ _ _ _ => (pe_call G_whole (hr.mono (by decide)) (by rfl) T.D_whole.G T.D_whole.F.kp T.D_whole.B .nil pass0 (pa_cons (pv 1) pa_nil)))) (pv 0)))), ?_⟩
    refine ⟨_, rfl, a, p, rfl, .inr ea, hl, fun H1 k1 => ⟨_, rfl, ?_⟩⟩
    have ea1 := k1 _ _ ea
    by_cases hc : p.any hasC = true
    · rw [hc]
      refine ⟨_, rfl, a, rfl, ⟨_, SqL.of ea1⟩, fun D nD => ?_⟩
      refine lc_it (walk_list (K := K) (a := a) (xs := p.map sV)) (fun i H' => H' D = some (.lst (((p.take i).map wholeN).map sV)) ∧ Same H1 H') ⟨upd_same, same_upd (Same.refl H1) nD⟩ ?_ ?_ ?_
      · rintro i H' _ ⟨_, k⟩
        exact SqL.of (k _ _ ea1)
      · rintro i x H2 H3 hi ⟨eD, k2⟩ ⟨rfl, hx⟩
        rw [List.length_map] at hi
        rw [List.getElem?_map, List.getElem?_eq_getElem hi] at hx
        have hx := (Option.some.inj hx).symm
        subst hx
        refine ⟨rfl, ?_⟩
        have hz := hok _ (List.getElem_mem hi)
        refine ⟨_, rfl, p[i], rfl, by omega, _, eD, szN (by rw [List.length_map, List.length_map, List.length_take]; omega), ?_, same_mut k2 nD⟩
        rw [take_one (List.getElem?_eq_getElem hi), List.map_append, List.map_append]
        exact upd_same
      · rintro H2 ⟨eD, k2⟩
        rw [List.length_map, List.take_length] at eD
        exact q _ D (k1.trans k2) (by unfold blockN; rw [if_pos hc]; exact eD)
    · rw [Bool.eq_false_iff.mpr hc]
      exact ⟨_, rfl, q _ a k1 (by unfold blockN; rw [if_neg hc]; exact ea1)⟩
def spBlocksP : Sp := fun vs H Q _ => ∃ (v : V) (p : Pg), vs = [v] ∧ PgR H v p ∧ PgOk p ∧ ∀ H' u, Same H H' → PgR H' u (blocksN p) → Q u H'
theorem ok_blocksP (T : Txt K mg) : FnOk P w K mg base CX0 3 T.a_blocks_page T.d_blocks_page ["page"] spBlocksP := by
  have G_block : FnOk P w K mg base CX0 2 T.a_block T.d_block ["rows"] spBlock := ok_block T
  refine T.D_blocks_page.F.ok sc_blocks_page (fun vs H Q E h => ?_) (fun cdv A outer s H vs Q E hr h => ?_)
  · obtain ⟨v, p, rfl, _⟩ := h
    rfl
  · obtain ⟨v, p, rfl, hp, ⟨hl, hok⟩, q⟩ := h
    obtain ⟨a, rfl, ea⟩ := PgR.iff.mp hp
    refine ⟨_, (pss_cons (ps_set (i := 1) sc_blocks_page.nd rfl (.inl rfl) (pe_lst pa_nil))
      (pss_cons (ps_set (i := 2) sc_blocks_page.nd rfl (.inl rfl) (pe_lst pa_nil))
      (pss_cons (ps_for PassesOwn.never rfl (pi_tup (pv 0)) (pg_name (i := 3) sc_blocks_page.nd rfl (.inl rfl)) (pss_one (ps_if (pt_cmpR op_eq (pv 3) (pe_op op_mul_str (pe_glob (v := .str " ") (by rfl) T.m_BLANK ⟨_, rfl⟩) (pe_callB call_len_str (by rfl) T.n_len PySem.boot_len (pa_cons (pv 3) pa_nil))) (nomark _)) (pss_cons (ps_expr (pe_bm PySem.F.plainAttrs_list PySem.F.slot_list_extend PySem.F.type_list_extend mt_extend (pv 1) (pa_cons (pe_op op_cat (pe_call G_block (hr.mono (by decide)) (by rfl) T.D_block.G T.D_block.F.kp T.D_block.B .nil pass0 (pa_cons (pv 2) pa_nil)) (pe_lst (pa_cons (pv 3) pa_nil))) pa_nil)))
      (pss_one (ps_set (i := 2) sc_blocks_page.nd rfl (.inl rfl) (pe_lst pa_nil)))) (pss_one (ps_expr (pe_bm PySem.F.plainAttrs_list PySem.F.slot_list_append PySem.F.type_list_append mt_append (pv 2) (pa_cons (pv 3) pa_nil)))))))
      (pss_one (ps_ret (pe_callTy call_tuple_of (by rfl) T.n_tuple (by decide +kernel) (pa_cons (pe_op op_cat (pv 1) (pe_call G_block (hr.mono (by decide)) (by rfl) T.D_block.G T.D_block.F.kp T.D_block.B .nil pass0 (pa_cons (pv 2) pa_nil))) pa_nil))))))), ?_⟩
    refine ⟨Nat.zero_le _, fun R nR => ⟨Nat.zero_le _, fun U nU => ?_⟩⟩
    have nRU : R ≠ U := fun z => by rw [z, upd_same] at nU; cases nU
    have nU0 : H U = none := by rw [← nU, upd_ne (Ne.symm nRU)]
    refine ⟨_, rfl, a, rfl, ⟨_, SqT.of (by rw [upd_ne (ne_of_none (H := upd H R (.lst [])) (by rw [upd_ne (ne_of_none ea nR)]; exact ea) nU), upd_ne (ne_of_none ea nR)]; exact ea)⟩, ?_⟩
    refine for_it (walk_tup (K := K) (a := a) (xs := p.map sV)) (fun i σ' H' => ∃ (U' : Addr) (x3 : Option V), σ' = [some (.ref a), some (.ref R), some (.ref U'), x3] ∧ Same H H' ∧ R ≠ U' ∧ H U' = none ∧ H' R = some (.lst ((blkS (p.take i)).1.map sV)) ∧ H' U' = some (.lst ((blkS (p.take i)).2.map sV)))
      ⟨U, none, rfl, same_upd (same_upd (Same.refl H) nR) nU, nRU, nU0, by rw [upd_ne nRU]; exact upd_same, upd_same⟩ ?_ ?_ ?_
    · rintro i σ1 H1 _ ⟨_, _, _, k, _⟩
      exact SqT.of (k _ _ ea)
    · rintro i x σ1 H1 H2 hi ⟨U', x3, rfl, k1, nRU, nU0, eR, eU⟩ ⟨rfl, hx⟩
      rw [List.length_map] at hi
      have hr : p[i]? = some p[i] := List.getElem?_eq_getElem hi
      rw [List.getElem?_map, hr] at hx
      have hx := (Option.some.inj hx).symm
      subst hx
      have es := blkS_at hr
      have hz := hok _ (List.getElem_mem hi)
      have bl := blkS_len (p.take i)
      rw [List.length_take] at bl
      have br := blkS_rows (b := 200) (l := p.take i) fun r h => hok r (List.mem_of_mem_take h)
      generalize p[i] = r at hr es hz
      refine ⟨_, rfl, _, rfl, mkS r, rfl, by rw [mkS_len]; exact big_ok (by omega), _, _, rfl, rfl, by rw [mkS_len]; exact mul_okN (by omega) (by decide), rfl, blankN r, by rw [blank_mk, mkS_len, mul_sign]; exact congrArg V.bl (dec_blank r _ rfl), ?_⟩
      rw [es]
      unfold blkF
      by_cases hb : blankN r = true
      · rw [hb]
        refine ⟨_, rfl, .inl ⟨rfl, _, SqL.of eR⟩, _, rfl, U', _, rfl, eU, ⟨by omega, br⟩, fun H3 b k3 eb => ?_⟩
        refine ⟨_, rfl, big_ok (by show 1 ≤ _; omega), fun p1 np1 => ?_⟩
        have k4 := same_upd (o := .lst [sV r]) k3 np1
        have eb4 : upd H3 p1 (.lst [sV r]) b = _ := (upd_ne (ne_of_none eb np1)).trans eb
        have ep4 : upd H3 p1 (.lst [sV r]) p1 = _ := upd_same
        generalize upd H3 p1 (.lst [sV r]) = H4 at k4 eb4 ep4
        refine ⟨b, p1, _, _, rfl, rfl, eb4, ep4, Nat.le_of_lt (szN (by rw [List.length_map, block_len]; show _ + 1 < _; omega)), fun p2 np2 => ?_⟩
        rw [show (blockN (blkS (p.take i)).2).map sV ++ [sV r] = (blockN (blkS (p.take i)).2 ++ [r]).map sV from by rw [List.map_append]; rfl]
        have k5 := same_upd (o := .lst ((blockN (blkS (p.take i)).2 ++ [r]).map sV)) k4 np2
        have e5 : upd H4 p2 (.lst ((blockN (blkS (p.take i)).2 ++ [r]).map sV)) p2 = _ := upd_same
        generalize upd H4 p2 (.lst ((blockN (blkS (p.take i)).2 ++ [r]).map sV)) = H5 at k5 e5
        refine ⟨R, p2, _, _, rfl, rfl, k5 _ _ eR, e5, Nat.le_of_lt (szN (by rw [List.length_map, List.length_map, List.length_append, block_len]; show _ + (_ + 1) < _; omega)), ?_⟩
        rw [← List.map_append]
        have k6 := same_mut (o := .lst (((blkS (p.take i)).1 ++ (blockN (blkS (p.take i)).2 ++ [r])).map sV)) (k1.trans k5) nR
        have e6 : upd H5 R (.lst (((blkS (p.take i)).1 ++ (blockN (blkS (p.take i)).2 ++ [r])).map sV)) R = _ := upd_same
        generalize upd H5 R (.lst (((blkS (p.take i)).1 ++ (blockN (blkS (p.take i)).2 ++ [r])).map sV)) = H6 at k6 e6
        refine ⟨Nat.zero_le _, fun U2 nU2 => ?_⟩
        have nRU2 : R ≠ U2 := ne_of_none e6 nU2
        have nU20 : H U2 = none := by
          cases z : H U2 with
          | none => rfl
          | some o => rw [k6 _ _ z] at nU2; cases nU2
        exact ⟨U2, _, rfl, same_upd k6 nU2, nRU2, nU20, by rw [upd_ne nRU2, e6, if_pos rfl], by rw [upd_same, if_pos rfl]; rfl⟩
      · have hb := Bool.eq_false_iff.mpr hb
        rw [hb]
        refine ⟨_, rfl, .inl ⟨rfl, _, SqL.of eU⟩, _, rfl, U', _, _, rfl, rfl, eU, szN (by rw [List.length_map]; omega), ?_⟩
        exact ⟨U', _, rfl, same_mut k1 nU0, nRU, nU0, by rw [upd_ne nRU, eR, if_neg Bool.false_ne_true], by rw [upd_same, if_neg Bool.false_ne_true, List.map_append]; rfl⟩
    · rintro σ1 H1 ⟨U', x3, rfl, k1, nRU, nU0, eR, eU⟩
      rw [List.length_map, List.take_length] at eR eU
      have bl := blkS_len p
      refine ⟨_, rfl, _, rfl, U', _, rfl, eU, ⟨by omega, blkS_rows hok⟩, fun H3 b k3 eb => ?_⟩
      refine ⟨R, b, _, _, rfl, rfl, k3 _ _ eR, eb, Nat.le_of_lt (szN (by rw [List.length_map, List.length_map, block_len]; omega)), fun p2 np2 => ?_⟩
      rw [← List.map_append]
      have k4 := same_upd (o := .lst (((blkS p).1 ++ blockN (blkS p).2).map sV)) (k1.trans k3) np2
      have e4 : upd H3 p2 (.lst (((blkS p).1 ++ blockN (blkS p).2).map sV)) p2 = _ := upd_same
      generalize upd H3 p2 (.lst (((blkS p).1 ++ blockN (blkS p).2).map sV)) = H4 at k4 e4
      refine ⟨p2, _, rfl, .inl ⟨SqL.of e4, fun r nr => ?_⟩⟩
      exact q _ _ (same_upd k4 nr) (PgR.iff.mpr ⟨r, rfl, upd_same⟩)
end
end Vf

set_option Elab.async false
set_option linter.all false
set_option maxRecDepth 100000
set_option maxHeartbeats 4000000
namespace Vf
open PySem PySem.Spec PyProof.Rows L2 TL
theorem any_take {α : Type} {l : List α} {f : α → Bool} {i : Nat} {x : α} (h : l[i]? = some x) : (l.take (i + 1)).any f = ((l.take i).any f || f x) := by
  rw [take_one h, List.any_append]; simp
theorem lk_ok {l : List Pg} (h : LkOk l) {i : Nat} {p : Pg} (e : l[i]? = some p) : PgOk p := h.2 p (List.mem_of_getElem? e)
section
variable {P : Program} {w : World} {K : PySem.W.Frag} {mg : Str → Option Value} {base : Heap}
def spBelow : Sp := fun vs H Q _ => ∃ (v : V) (l : List Pg), vs = [v] ∧ LkR H v l ∧ LkOk l ∧ ∀ H' u, Same H H' → LkR H' u (belowN l) → Q u H'
theorem ok_below (T : Txt K mg) : FnOk P w K mg base CX0 2 T.a_below T.d_below ["look"] spBelow := by
  have G_whole : FnOk P w K mg base CX0 1 T.a_whole T.d_whole ["row"] spWhole := ok_whole T
  refine T.D_below.F.ok sc_below (fun vs H Q E h => ?_) (fun cdv A outer s H vs Q E hr h => ?_)
  · obtain ⟨v, l, rfl, _⟩ := h
    rfl
  · obtain ⟨v, l, rfl, ⟨a, us, rfl, ea, lv⟩, hok, q⟩ := h
    refine ⟨_, (pss_cons (ps_set (i := 1) sc_below.nd rfl (.inl rfl) (pe_lst pa_nil))
      (pss_cons (ps_set (i := 2) sc_below.nd rfl (.inl rfl) pe_bl)
      (pss_cons (ps_for PassesOwn.never rfl (pi_tup (pv 0)) (pg_name (i := 3) sc_below.nd rfl (.inl rfl)) (pss_cons (ps_set (i := 4) sc_below.nd rfl (.inl rfl) (pe_lst pa_nil))
      (pss_cons (ps_for PassesOwn.never rfl (pi_tup (pv 3)) (pg_name (i := 5) sc_below.nd rfl (.inl rfl)) (pss_cons (ps_set (i := 2) sc_below.nd rfl (.inl rfl) (pe_or (pv 2) (pe_one (pe_cmpR op_in_sign (pe_glob (v := .str "#") (by rfl) T.m_COVER ⟨_, rfl⟩) (pv 5) (by rfl)))))
      (pss_one (ps_expr (pe_bm PySem.F.plainAttrs_list PySem.F.slot_list_append PySem.F.type_list_append mt_append (pv 4) (pa_cons (pe_ifExp (pt_val (pv 2)) (pe_call G_whole (hr.mono (by decide)) (by rfl) T.D_whole.G T.D_whole.F.kp T.D_whole.B .nil pass0 (pa_cons (pv 5) pa_nil)) (pv 5)) pa_nil))))))
      (pss_one (ps_expr (pe_bm PySem.F.plainAttrs_list PySem.F.slot_list_append PySem.F.type_list_append mt_append (pv 1) (pa_cons (pe_callTy call_tuple_of (by rfl) T.n_tuple (by decide +kernel) (pa_cons (pv 4) pa_nil)) pa_nil)))))))
      (pss_one (ps_ret (pe_callTy call_tuple_of (by rfl) T.n_tuple (by decide +kernel) (pa_cons (pv 1) pa_nil))))))), ?_⟩
    refine ⟨Nat.zero_le _, fun R nR => ?_⟩
    have k0 := same_upd (o := .lst []) (Same.refl H) nR
    have eR0 : upd H R (.lst []) R = some (.lst []) := upd_same
    generalize upd H R (.lst []) = H0 at k0 eR0
    refine ⟨_, rfl, a, rfl, ⟨_, SqT.of (k0 _ _ ea)⟩, ?_⟩
    refine for_it (walk_tup (K := K) (a := a) (xs := us)) (fun i σ' H' => ∃ (x3 x4 x5 : Option V) (zs : List V), σ' = [some (.ref a), some (.ref R), some (.bl ((l.take i).any pgC)), x3, x4, x5] ∧ Same H H' ∧ H' R = some (.lst zs) ∧ LV (PgR H') zs ((belowN l).take i))
      ⟨none, none, none, [], rfl, k0, eR0, LV.nil⟩ ?_ ?_ ?_
    · rintro i σ1 H1 _ ⟨_, _, _, _, _, k, _⟩
      exact SqT.of (k _ _ ea)
    · rintro i x σ1 H1 H2 hi ⟨x3, x4, x5, zs, rfl, k1, eR, lz⟩ ⟨rfl, hx⟩
      obtain ⟨pg, epg, hpg⟩ := lv.at hx
      obtain ⟨b, rfl, eb⟩ := PgR.iff.mp hpg
      have pok := lk_ok hok epg
      have il : i < l.length := (List.getElem?_eq_some_iff.mp epg).1
      have l200 := hok.1
      have ed : l.getD i [] = pg := getD_of epg
      have at1 := any_take (f := pgC) epg
      have eB : (belowN l)[i]? = some ((List.range pg.length).map (rowBel l i)) := by unfold belowN; rw [List.getElem?_map, List.getElem?_range il]; show some ((List.range (l.getD i []).length).map (rowBel l i)) = _; rw [ed]
      refine ⟨Nat.zero_le _, fun S nS => ?_⟩
      have nS0 : H S = none := by
        cases z : H S with
        | none => rfl
        | some o => rw [k1 _ _ z] at nS; cases nS
      have k2 := same_upd (o := .lst []) k1 nS
      have eS2 : upd H2 S (.lst []) S = some (.lst []) := upd_same
      have nRS : R ≠ S := ne_of_none eR nS
      have eR2 : upd H2 S (.lst []) R = some (.lst zs) := (upd_ne nRS).trans eR
      have lz2 : LV (PgR (upd H2 S (.lst []))) zs ((belowN l).take i) := lz.mono fun _ _ z => PgR.mn.to z (TK.new (TK.refl _) nS)
      generalize upd H2 S (.lst []) = H3 at k2 eS2 eR2 lz2
      refine ⟨_, rfl, b, rfl, ⟨_, SqT.of (k2 _ _ eb)⟩, ?_⟩
      refine for_it (walk_tup (K := K) (a := b) (xs := pg.map sV)) (fun j σ' H' => ∃ (x5 : Option V), σ' = [some (.ref a), some (.ref R), some (.bl ((l.take i).any pgC || (pg.take j).any hasC)), some (.ref b), some (.ref S), x5] ∧ Same H H' ∧ H' R = some (.lst zs) ∧ LV (PgR H') zs ((belowN l).take i) ∧ H' S = some (.lst (((List.range j).map (rowBel l i)).map sV)))
        ⟨x5, by rw [List.take_zero]; show _ = [_, _, some (V.bl ((l.take i).any pgC || false)), _, _, _]; rw [Bool.or_false]; rfl, k2, eR2, lz2, eS2⟩ ?_ ?_ ?_
      · rintro j σ1 H1 _ ⟨_, _, k, _⟩
        exact SqT.of (k _ _ eb)
      · rintro j y σ2 H4 H5 hj ⟨x5, rfl, k4, eR4, lz4, eS4⟩ ⟨rfl, hy⟩
        rw [List.length_map] at hj
        have hr : pg[j]? = some pg[j] := List.getElem?_eq_getElem hj
        rw [List.getElem?_map, hr] at hy
        have hy := (Option.some.inj hy).symm
        subst hy
        have at2 := any_take (f := hasC) hr
        have hz := pok.2 _ (List.getElem_mem hj)
        have p200 := pok.1
        have rb : rowBel l i j = if ((l.take i).any pgC || (pg.take (j + 1)).any hasC) = true then wholeN pg[j] else pg[j] := by
          unfold rowBel bgB
          rw [ed, getD_of hr]
        rw [at2] at rb ⊢
        generalize pg[j] = r at hr hz rb
        generalize (l.take i).any pgC = g1 at rb
        generalize (pg.take j).any hasC = g2 at rb
        have ln : (((List.range j).map (rowBel l i)).map sV).length < sizeLine := szN (by rw [List.length_map, List.length_map, List.length_range]; omega)
        have fin : ∀ (u : V) (bg : Bool), bg = (g1 || (g2 || hasC r)) → u = sV (rowBel l i j) → ∃ (x5 : Option V), [some (.ref a), some (.ref R), some (.bl bg), some (.ref b), some (.ref S), some (sV r)] = [some (.ref a), some (.ref R), some (.bl (g1 || (g2 || hasC r))), some (.ref b), some (.ref S), x5] ∧ Same H (upd H5 S (.lst (((List.range j).map (rowBel l i)).map sV ++ [u]))) ∧ upd H5 S (.lst (((List.range j).map (rowBel l i)).map sV ++ [u])) R = some (.lst zs) ∧ LV (PgR (upd H5 S (.lst (((List.range j).map (rowBel l i)).map sV ++ [u])))) zs ((belowN l).take i) ∧ upd H5 S (.lst (((List.range j).map (rowBel l i)).map sV ++ [u])) S = some (.lst (((List.range (j + 1)).map (rowBel l i)).map sV)) := fun u bg e1 e2 => by
          subst e1 e2
          refine ⟨_, rfl, same_mut k4 nS0, (upd_ne nRS).trans eR4, lz4.mono fun _ _ z => PgR.mn.to z (TK.mut (TK.refl _) eS4), ?_⟩
          rw [List.range_succ, List.map_append, List.map_append]
          exact upd_same
        refine ⟨_, rfl, (g1 || g2), rfl, ?_⟩
        have tail : ∀ bg : Bool, bg = (g1 || (g2 || hasC r)) → rowBel l i j = (if bg = true then wholeN r else r) := fun bg e => by rw [rb, e]
        by_cases hg : (g1 || g2) = true
        · rw [if_pos hg]
          have e : true = (g1 || (g2 || hasC r)) := by rw [← Bool.or_assoc, hg, Bool.true_or]
          refine ⟨_, rfl, .inl ⟨rfl, _, SqL.of eS4⟩, _, rfl, _, rfl, ?_⟩
          exact ⟨_, rfl, r, rfl, by omega, S, _, _, rfl, rfl, eS4, ln, fin _ _ e (by rw [tail _ e]; rfl)⟩
        · rw [if_neg hg]
          have hg := Bool.eq_false_iff.mpr hg
          have e : hasC r = (g1 || (g2 || hasC r)) := by rw [← Bool.or_assoc, hg, Bool.false_or]
          refine ⟨_, rfl, 35, mkS r, by rw [hash_mk]; rfl, rfl, ?_⟩
          rw [in_hash]
          refine ⟨_, rfl, .inl ⟨rfl, _, SqL.of eS4⟩, _, rfl, _, rfl, ?_⟩
          have tl := tail _ e
          have fin := fin (sV (rowBel l i j)) _ e rfl
          generalize hasC r = hc at tl fin
          cases hc with
          | true => exact ⟨_, rfl, r, rfl, by omega, S, _, _, rfl, rfl, eS4, ln, by rw [tl] at fin; exact fin⟩
          | false => exact ⟨_, rfl, S, _, _, rfl, rfl, eS4, ln, by rw [tl] at fin; exact fin⟩
      · rintro σ2 H4 ⟨x5, rfl, k4, eR4, lz4, eS4⟩
        rw [List.length_map, List.take_length]
        rw [List.length_map] at eS4
        refine ⟨_, rfl, .inl ⟨rfl, _, SqL.of eR4⟩, _, rfl, S, _, rfl, .inl ⟨SqL.of eS4, fun p np => ?_⟩⟩
        have k5 := same_upd (o := .tup (((List.range pg.length).map (rowBel l i)).map sV)) k4 np
        have eR5 : upd H4 p (.tup (((List.range pg.length).map (rowBel l i)).map sV)) R = _ := (upd_ne (ne_of_none eR4 np)).trans eR4
        have lz5 : LV (PgR (upd H4 p (.tup (((List.range pg.length).map (rowBel l i)).map sV)))) zs ((belowN l).take i) := lz4.mono fun _ _ z => PgR.mn.to z (TK.new (TK.refl _) np)
        have ep5 : PgR (upd H4 p (.tup (((List.range pg.length).map (rowBel l i)).map sV))) (.ref p) ((List.range pg.length).map (rowBel l i)) := PgR.iff.mpr ⟨p, rfl, upd_same⟩
        generalize upd H4 p (.tup (((List.range pg.length).map (rowBel l i)).map sV)) = H5 at k5 eR5 lz5 ep5
        have zl := lz5.1
        rw [List.length_take] at zl
        refine ⟨R, _, _, rfl, rfl, eR5, szN (by omega), ?_⟩
        have tm : TK H5 (upd H5 R (.lst (zs ++ [.ref p]))) := TK.mut (TK.refl _) eR5
        refine ⟨_, _, _, _, by rw [at1]; rfl, same_mut k5 nR, upd_same, ?_⟩
        rw [take_one eB]
        exact (lz5.snoc ep5).mono fun _ _ z => PgR.mn.to z tm
    · rintro σ1 H1 ⟨x3, x4, x5, zs, rfl, k1, eR, lz⟩
      have lbl : (belowN l).length = l.length := by unfold belowN; rw [List.length_map, List.length_range]
      rw [lv.1, ← lbl, List.take_length] at lz
      refine ⟨_, rfl, R, _, rfl, .inl ⟨SqL.of eR, fun p np => ?_⟩⟩
      exact q _ _ (same_upd k1 np) ⟨p, zs, rfl, upd_same, lz.mono fun _ _ z => PgR.mn.to z (TK.new (TK.refl _) np)⟩
end
end Vf

set_option Elab.async false
set_option linter.all false
set_option maxRecDepth 100000
set_option maxHeartbeats 4000000
namespace Vf
open PySem PySem.Spec PyProof.Rows L2 TL
theorem LV.takeN {α : Type} {R : V → α → Prop} {vs : List V} {rs : List α} (n : Nat) (h : LV R vs rs) : LV R (vs.take n) (rs.take n) := by
  refine ⟨by rw [List.length_take, List.length_take, h.1], fun i r e => ?_⟩
  rw [List.getElem?_take] at e
  by_cases c : i < n
  · rw [if_pos c] at e
    obtain ⟨x, e1, e2⟩ := h.2 i r e
    exact ⟨x, by rw [List.getElem?_take, if_pos c]; exact e1, e2⟩
  · rw [if_neg c] at e; cases e
theorem slA_any {K : PySem.W.Frag} {a : Addr} {xs : List V} {lo hi : Option Int} {H : Hp} {Q : VK} (e : H a = some (.tup xs)) (q : ∀ b H', Same H H' → H' b = some (.tup (cutV xs lo hi)) → Q (.ref b) H') : rSlA K (.ref a) lo hi H Q := by
  refine ⟨a, xs, rfl, SqT.of e, fun ⟨h1, h2⟩ => q a H (Same.refl H) ?_, fun _ p np => q p _ (same_upd (Same.refl H) np) upd_same⟩
  rw [e]
  unfold cutV
  rw [h1, h2, List.drop_zero, Nat.sub_zero, List.take_length]
/-- a comprehension over a tuple: each thing to a thing of its own -/
theorem lc_map {α β : Type} {K : PySem.W.Frag} {a : Addr} {us : List V} {xs : List α} {R : Hp → V → α → Prop} {S : Hp → V → β → Prop} {f : α → β} {g : TG} {te : TE} {vs : List Nat} {σ : L2.St} {H : Hp} {Qd : Addr → Hp → Prop}
    (ea : H a = some (.tup us)) (lv : LV (R H) us xs) (hl : xs.length ≤ 10000) (mS : Mn S)
    (hs : ∀ (i : Nat) (x : V) (r : α) (H1 : Hp) (QQ : VK) (NN : Hp → Prop), Same H H1 → us[i]? = some x → xs[i]? = some r → R H x r → (∀ y H4, Same H1 H4 → S H4 y (f r) → QQ y H4) →
      g x (wipe σ vs) H1 fun σ2 H2 => wipe σ2 vs = wipe σ vs ∧ tYes σ2 H2 fun b H3 => if b = true then te σ2 H3 QQ else NN H3)
    (hq : ∀ (D : Addr) (H' : Hp) (zs : List V), H D = none → Same H H' → H' D = some (.lst zs) → LV (S H') zs (xs.map f) → Qd D H') :
    ∀ D, H D = none → ∃ W : Nat → Nat → Hp → Prop, (∃ m, W 0 m (upd H D (.lst []))) ∧ ∀ i m H', W i m H' →
      ((Itt K a).stop i H' ∧ Qd D H') ∨ ((Itt K a).go i H' ∧ ∃ Nx : Hp → Prop, (∀ H'', Nx H'' → ∃ m', m' < m ∧ W (i + 1) m' H'') ∧ ∀ x H'', (Itt K a).yld i H' x H'' → g x (wipe σ vs) H'' fun σ2 H2 => wipe σ2 vs = wipe σ vs ∧ tYes σ2 H2 fun b H3 =>
        if b = true then te σ2 H3 fun y H4 => ∃ acc, H4 D = some (.lst acc) ∧ acc.length < sizeLine ∧ Nx (upd H4 D (.lst (acc ++ [y]))) else Nx H3) := by
  intro D nD
  refine lc_it (walk_tup (K := K) (a := a) (xs := us)) (fun i H' => ∃ zs, H' D = some (.lst zs) ∧ LV (S H') zs ((xs.take i).map f) ∧ Same H H') ⟨[], upd_same, LV.nil, same_upd (Same.refl H) nD⟩ ?_ ?_ ?_
  · rintro i H' _ ⟨_, _, _, k⟩
    exact SqT.of (k _ _ ea)
  · rintro i x H1 H2 hi ⟨zs, eD, lz, k1⟩ ⟨rfl, hx⟩
    obtain ⟨r, er, hr⟩ := lv.at hx
    refine hs i x r H2 _ _ k1 hx er hr fun y H4 k4 hy => ?_
    have eD4 := k4 _ _ eD
    have zl := lz.1
    rw [List.length_map, List.length_take] at zl
    refine ⟨zs, eD4, szN (by omega), zs ++ [y], upd_same, ?_, same_mut (k1.trans k4) nD⟩
    have tm : TK H4 (upd H4 D (.lst (zs ++ [y]))) := TK.mut (TK.refl _) eD4
    rw [take_one er, List.map_append]
    exact ((lz.mono fun _ _ z => mS.to z (TK.same k4)).snoc hy).mono fun _ _ z => mS.to z tm
  · rintro H1 ⟨zs, eD, lz, k1⟩
    rw [lv.1, List.take_length] at lz
    exact hq D H1 zs nD k1 eD lz
theorem TupR.new {α : Type} {R : Hp → V → α → Prop} (m : Mn R) {H : Hp} {p : Addr} {zs : List V} {ys : List α} (h : LV (R H) zs ys) (np : H p = none) : TupR R (upd H p (.tup zs)) (.ref p) ys :=
  ⟨p, zs, rfl, upd_same, h.mono fun _ _ z => m.to z (TK.new (TK.refl _) np)⟩
def nmS : Nat → Str
  | 0 => "wide"
  | 1 => "even"
  | 2 => "keep"
  | 3 => "rows"
  | 4 => "blocks"
  | 5 => "pages"
  | 6 => "below"
  | _ => "all"
theorem nm_eq : ∀ i, i < 8 → ∀ j, j < 8 → decide (V.str (nmS i) = V.str (nmS j)) = decide (i = j) := by decide +kernel
def StpR (H : Hp) (v : V) (st : Nat × Nat) : Prop := ∃ a, v = .ref a ∧ H a = some (.tup (if st.1 < 3 then [V.str (nmS st.1), nV st.2] else [V.str (nmS st.1)]))
theorem StpR.mn : Mn StpR := ⟨fun ⟨a, e, h⟩ k => ⟨a, e, k _ _ h⟩⟩
def StOk (st : Nat × Nat) : Prop := st.1 < 8 ∧ 1 ≤ st.2 ∧ st.2 ≤ 1000
def rowsN (r : Rw) : Rw := if hasC r = true then wholeN r else r
def pagesN (p : Pg) : Pg := if p.any hasC = true then p.map wholeN else p
def drawN : Nat → Nat → List Pg → List Pg
  | 0, n, l => l.map fun p => p.map (wideN n)
  | 1, n, l => l.map fun p => p.map (evenN n)
  | 2, n, l => l.take n
  | 3, _, l => l.map fun p => p.map rowsN
  | 4, _, l => l.map blocksN
  | 5, _, l => l.map pagesN
  | 6, _, l => belowN l
  | _, _, l => l.map fun p => p.map wholeN
section
variable {P : Program} {w : World} {K : PySem.W.Frag} {mg : Str → Option Value} {base : Heap}
def spDue : Sp := fun vs H Q _ => ∃ (sv v : V) (st : Nat × Nat) (l : List Pg), vs = [sv, v] ∧ StpR H sv st ∧ StOk st ∧ LkR H v l ∧ LkOk l ∧ ∀ H' u, Same H H' → LkR H' u (drawN st.1 st.2 l) → Q u H'
theorem ok_drawS (T : Txt K mg) : FnOk P w K mg base CX0 4 T.a_draw T.d_draw ["step", "look"] spDue := by
  have G_wide_row : FnOk P w K mg base CX0 1 T.a_wide_row T.d_wide_row ["row", "distance"] (spRowN wideN) := ok_wide T
  have G_even_row : FnOk P w K mg base CX0 1 T.a_even_row T.d_even_row ["row", "measure"] (spRowN evenN) := ok_even T
  have G_whole : FnOk P w K mg base CX0 1 T.a_whole T.d_whole ["row"] spWhole := ok_whole T
  have G_whole_page : FnOk P w K mg base CX0 2 T.a_whole_page T.d_whole_page ["page"] spWholeP := ok_wholeP T
  have G_has_cover : FnOk P w K mg base CX0 1 T.a_has_cover T.d_has_cover ["page"] spHasC := ok_hasC T
  have G_blocks_page : FnOk P w K mg base CX0 3 T.a_blocks_page T.d_blocks_page ["page"] spBlocksP := ok_blocksP T
  have G_below : FnOk P w K mg base CX0 2 T.a_below T.d_below ["look"] spBelow := ok_below T
  refine T.D_draw.F.ok sc_draw (fun vs H Q E h => ?_) (fun cdv A outer s H vs Q E hr h => ?_)
  · obtain ⟨sv, v, st, l, rfl, _⟩ := h
    rfl
  · obtain ⟨sv, v, ⟨k, n⟩, l, rfl, ⟨sa, rfl, es⟩, ⟨hk, hn1, hn⟩, ⟨a, us, rfl, ea, lv⟩, hok, q⟩ := h
    have hk : k < 8 := hk
    have hn1 : 1 ≤ n := hn1
    have hn : n ≤ 1000 := hn
    refine ⟨_, (pss_cons (ps_set (i := 2) sc_draw.nd rfl (.inl rfl) (pe_ix ix_tup (pv 0) pe_int (fun _ _ => rfl)))
      (pss_cons (ps_if (pt_cmpR op_eq (pv 2) pe_str (nomark _)) (pss_one (ps_ret (pe_callTy call_tuple_of (by rfl) T.n_tuple (by decide +kernel) (pa_cons (pe_lc (own := [("page", 3)]) (g := gName 3) (tt := tYes) rfl sc_draw.nd (pi_tup (pv 1)) (blkOk_by (own := [("page", 3)]) (N := ["step", "look", "name", "page", "row"]) (sc := (defScope s_draw)) (by decide +kernel)) (fun _ _ _ _ _ => (pg_name (i := 3) sc_draw.nd rfl (.inl rfl))) (fun _ _ _ _ _ => pts_nil) (fun _ _ _ _ _ => (pe_callTy (T := "tuple") (r := rTupleOf K) call_tuple_of (by rfl) T.n_tuple (by decide +kernel) (pa_cons (pe_lc (own := [("row", 4)]) (wi := iTup K _) (g := gName 4) (tt := tYes) rfl sc_draw.nd (pi_tup (pv 3)) (blkOk_by (own := [("row", 4)]) (N := ["step", "look", "name", "page", "row"]) (sc := (rel2 _ (defScope s_draw))) (by decide +kernel)) (fun _ _ _ _ _ => (pg_name (i := 4) sc_draw.nd rfl (.inl rfl))) (fun _ _ _ _ _ => pts_nil) (fun _ _ _ _ _ => (pe_call G_wide_row (hr.mono (by decide)) (by rfl) T.D_wide_row.G T.D_wide_row.F.kp T.D_wide_row.B .nil pass0 (pa_cons (pv 4) (pa_cons (pe_ix (r := rIxT K) ix_tup (pv 0) pe_int (fun _ _ => rfl)) pa_nil))))) pa_nil)))) pa_nil)))) pss_nil)
      (pss_cons (ps_if (pt_cmpR op_eq (pv 2) pe_str (nomark _)) (pss_one (ps_ret (pe_callTy call_tuple_of (by rfl) T.n_tuple (by decide +kernel) (pa_cons (pe_lc (own := [("page", 3)]) (g := gName 3) (tt := tYes) rfl sc_draw.nd (pi_tup (pv 1)) (blkOk_by (own := [("page", 3)]) (N := ["step", "look", "name", "page", "row"]) (sc := (defScope s_draw)) (by decide +kernel)) (fun _ _ _ _ _ => (pg_name (i := 3) sc_draw.nd rfl (.inl rfl))) (fun _ _ _ _ _ => pts_nil) (fun _ _ _ _ _ => (pe_callTy (T := "tuple") (r := rTupleOf K) call_tuple_of (by rfl) T.n_tuple (by decide +kernel) (pa_cons (pe_lc (own := [("row", 4)]) (wi := iTup K _) (g := gName 4) (tt := tYes) rfl sc_draw.nd (pi_tup (pv 3)) (blkOk_by (own := [("row", 4)]) (N := ["step", "look", "name", "page", "row"]) (sc := (rel2 _ (defScope s_draw))) (by decide +kernel)) (fun _ _ _ _ _ => (pg_name (i := 4) sc_draw.nd rfl (.inl rfl))) (fun _ _ _ _ _ => pts_nil) (fun _ _ _ _ _ => (pe_call G_even_row (hr.mono (by decide)) (by rfl) T.D_even_row.G T.D_even_row.F.kp T.D_even_row.B .nil pass0 (pa_cons (pv 4) (pa_cons (pe_ix (r := rIxT K) ix_tup (pv 0) pe_int (fun _ _ => rfl)) pa_nil))))) pa_nil)))) pa_nil)))) pss_nil)
      (pss_cons (ps_if (pt_cmpR op_eq (pv 2) pe_str (nomark _)) (pss_one (ps_ret (pe_callTy call_tuple_of (by rfl) T.n_tuple (by decide +kernel) (pa_cons (pe_lc (own := [("page", 3)]) (g := gName 3) (tt := tYes) rfl sc_draw.nd (pi_tup (pv 1)) (blkOk_by (own := [("page", 3)]) (N := ["step", "look", "name", "page", "row"]) (sc := (defScope s_draw)) (by decide +kernel)) (fun _ _ _ _ _ => (pg_name (i := 3) sc_draw.nd rfl (.inl rfl))) (fun _ _ _ _ _ => pts_nil) (fun _ _ _ _ _ => (pe_callTy (T := "tuple") (r := rTupleOf K) call_tuple_of (by rfl) T.n_tuple (by decide +kernel) (pa_cons (pe_lc (own := [("row", 4)]) (wi := iTup K _) (g := gName 4) (tt := tYes) rfl sc_draw.nd (pi_tup (pv 3)) (blkOk_by (own := [("row", 4)]) (N := ["step", "look", "name", "page", "row"]) (sc := (rel2 _ (defScope s_draw))) (by decide +kernel)) (fun _ _ _ _ _ => (pg_name (i := 4) sc_draw.nd rfl (.inl rfl))) (fun _ _ _ _ _ => pts_nil) (fun _ _ _ _ _ => (pe_ifExp (pt_cmpR op_in_sign (pe_glob (v := .str "#") (by rfl) T.m_COVER ⟨_, rfl⟩) (pv 4) (by rfl)) (pe_call G_whole (hr.mono (by decide)) (by rfl) T.D_whole.G T.D_whole.F.kp T.D_whole.B .nil pass0 (pa_cons (pv 4) pa_nil)) (pv 4)))) pa_nil)))) pa_nil)))) pss_nil)
      (pss_cons (ps_if (pt_cmpR op_eq (pv 2) pe_str (nomark _)) (pss_one (ps_ret (pe_callTy call_tuple_of (by rfl) T.n_tuple (by decide +kernel) (pa_cons (pe_lc (own := [("page", 3)]) (g := gName 3) (tt := tYes) rfl sc_draw.nd (pi_tup (pv 1)) (blkOk_by (own := [("page", 3)]) (N := ["step", "look", "name", "page", "row"]) (sc := (defScope s_draw)) (by decide +kernel)) (fun _ _ _ _ _ => (pg_name (i := 3) sc_draw.nd rfl (.inl rfl))) (fun _ _ _ _ _ => pts_nil) (fun _ _ _ _ _ => (pe_call G_blocks_page (hr.mono (by decide)) (by rfl) T.D_blocks_page.G T.D_blocks_page.F.kp T.D_blocks_page.B .nil pass0 (pa_cons (pv 3) pa_nil)))) pa_nil)))) pss_nil)
      (pss_cons (ps_if (pt_cmpR op_eq (pv 2) pe_str (nomark _)) (pss_one (ps_ret (pe_callTy call_tuple_of (by rfl) T.n_tuple (by decide +kernel) (pa_cons (pe_lc (own := [("page", 3)]) (g := gName 3) (tt := tYes) rfl sc_draw.nd (pi_tup (pv 1)) (blkOk_by (own := [("page", 3)]) (N := ["step", "look", "name", "page", "row"]) (sc := (defScope s_draw)) (by decide +kernel)) (fun _ _ _ _ _ => (pg_name (i := 3) sc_draw.nd rfl (.inl rfl))) (fun _ _ _ _ _ => pts_nil) (fun _ _ _ _ _ => (pe_ifExp (pt_val (pe_call G_has_cover (hr.mono (by decide)) (by rfl) T.D_has_cover.G T.D_has_cover.F.kp T.D_has_cover.B .nil pass0 (pa_cons (pv 3) pa_nil))) (pe_call G_whole_page (hr.mono (by decide)) (by rfl) T.D_whole_page.G T.D_whole_page.F.kp T.D_whole_page.B .nil pass0 (pa_cons (pv 3) pa_nil)) (pv 3)))) pa_nil)))) pss_nil)
      (pss_cons (ps_if (pt_cmpR op_eq (pv 2) pe_str (nomark _)) (pss_one (ps_ret (pe_call G_below (hr.mono (by decide)) (by rfl) T.D_below.G T.D_below.F.kp T.D_below.B .nil pass0 (pa_cons (pv 1) pa_nil)))) pss_nil)
      (pss_cons (ps_if (pt_cmpR op_eq (pv 2) pe_str (nomark _)) (pss_one (ps_ret (pe_callTy call_tuple_of (by rfl) T.n_tuple (by decide +kernel) (pa_cons (pe_lc (own := [("page", 3)]) (g := gName 3) (tt := tYes) rfl sc_draw.nd (pi_tup (pv 1)) (blkOk_by (own := [("page", 3)]) (N := ["step", "look", "name", "page", "row"]) (sc := (defScope s_draw)) (by decide +kernel)) (fun _ _ _ _ _ => (pg_name (i := 3) sc_draw.nd rfl (.inl rfl))) (fun _ _ _ _ _ => pts_nil) (fun _ _ _ _ _ => (pe_call G_whole_page (hr.mono (by decide)) (by rfl) T.D_whole_page.G T.D_whole_page.F.kp T.D_whole_page.B .nil pass0 (pa_cons (pv 3) pa_nil)))) pa_nil)))) pss_nil)
      (pss_one (ps_ret (pe_slice sl_tupA (pv 1) po_none (po_some (pe_ix ix_tup (pv 0) pe_int (fun _ _ => rfl)))))))))))))), ?_⟩
    have h0 : ∃ tl, H sa = some (.tup (V.str (nmS k) :: tl)) := by
      by_cases c : k < 3
      · exact ⟨_, by rw [es]; show some (HO.tup (if k < 3 then _ else _)) = _; rw [if_pos c]⟩
      · exact ⟨_, by rw [es]; show some (HO.tup (if k < 3 then _ else _)) = _; rw [if_neg c]⟩
    have h1 : k < 3 → H sa = some (.tup [V.str (nmS k), nV n]) := fun c => by rw [es]; show some (HO.tup (if k < 3 then _ else _)) = _; rw [if_pos c]
    obtain ⟨tl, e0⟩ := h0
    have ne := fun j hj => nm_eq k hk j hj
    refine ⟨_, rfl, sa, _, _, _, rfl, rfl, SqT.of e0, atI_nat (j := 0) rfl, ?_⟩
    have mk : ∀ (l2 : List Pg), drawN k n l = l2 → ∀ (D : Addr) (H' : Hp) (zs : List V), H D = none → Same H H' → H' D = some (.lst zs) → LV (PgR H') zs l2 → ∃ p ys, [V.ref D] = [V.ref p] ∧ ((SqL K H' p ys ∧ ∀ (l : Addr), H' l = none → Q (V.ref l) (upd H' l (HO.tup ys))) ∨ SqT K H' p ys ∧ Q (V.ref p) H') := by
      intro l2 e D H' zs nD k eD lz
      exact ⟨D, zs, rfl, .inl ⟨SqL.of eD, fun p np => q _ _ (same_upd k np) (by show LkR _ _ (drawN _ n l); rw [e]; exact TupR.new PgR.mn lz np)⟩⟩
    refine ⟨_, rfl, rfl, _, congrArg V.bl (ne 0 (by decide)), ?_⟩
    by_cases k0 : k = 0
    · rw [decide_eq_true k0]
      subst k0
      have fin := fun l2 e => mk l2 e
      refine ⟨_, rfl, a, rfl, ⟨_, SqT.of ea⟩, lc_map (K := K) (R := PgR) (S := PgR) (f := fun p => p.map (wideN n)) ea lv (by have := hok.1; omega) PgR.mn (fun i x pg H1 QQ NN k1 hx epg hpg hQ => ?_) ?_⟩
      · obtain ⟨b, bs, rfl, eb, lb⟩ := (PgR.mn.to hpg (TK.same k1))
        have pok := lk_ok hok epg
        have es1 := TK.same k1 _ _ e0
        refine ⟨rfl, _, rfl, b, rfl, ⟨_, SqT.of eb⟩, lc_map (K := K) (R := sgR) (S := sgR) (f := wideN n) eb lb (by have := pok.1; omega) sgR.mn (fun j y r H2 QQ2 NN2 k2 hy er hyr hQ2 => ?_) ?_⟩
        · have hyr : y = sV r := hyr
          subst hyr
          have rl := pok.2 r (List.mem_of_getElem? er)
          exact ⟨rfl, _, rfl, _, rfl, sa, _, _, _, rfl, rfl, SqT.of (TK.same (k1.trans k2) _ _ (h1 (by decide))), atI_nat (j := 1) rfl, r, n, rfl, by omega, hn1, hn, fun H3 k3 => hQ2 _ _ k3 rfl⟩
        · intro D2 H2 zs nD2 k2 eD2 lz
          exact ⟨D2, _, rfl, .inl ⟨SqL.of eD2, fun p np => hQ _ _ (same_upd k2 np) (TupR.new sgR.mn lz np)⟩⟩
      · exact fin _ rfl
    rw [decide_eq_false k0]
    refine ⟨_, rfl, rfl, _, congrArg V.bl (ne 1 (by decide)), ?_⟩
    by_cases k1 : k = 1
    · rw [decide_eq_true k1]
      subst k1
      have fin := fun l2 e => mk l2 e
      refine ⟨_, rfl, a, rfl, ⟨_, SqT.of ea⟩, lc_map (K := K) (R := PgR) (S := PgR) (f := fun p => p.map (evenN n)) ea lv (by have := hok.1; omega) PgR.mn (fun i x pg H1 QQ NN k1 hx epg hpg hQ => ?_) ?_⟩
      · obtain ⟨b, bs, rfl, eb, lb⟩ := (PgR.mn.to hpg (TK.same k1))
        have pok := lk_ok hok epg
        have es1 := TK.same k1 _ _ e0
        refine ⟨rfl, _, rfl, b, rfl, ⟨_, SqT.of eb⟩, lc_map (K := K) (R := sgR) (S := sgR) (f := evenN n) eb lb (by have := pok.1; omega) sgR.mn (fun j y r H2 QQ2 NN2 k2 hy er hyr hQ2 => ?_) ?_⟩
        · have hyr : y = sV r := hyr
          subst hyr
          have rl := pok.2 r (List.mem_of_getElem? er)
          exact ⟨rfl, _, rfl, _, rfl, sa, _, _, _, rfl, rfl, SqT.of (TK.same (k1.trans k2) _ _ (h1 (by decide))), atI_nat (j := 1) rfl, r, n, rfl, by omega, hn1, hn, fun H3 k3 => hQ2 _ _ k3 rfl⟩
        · intro D2 H2 zs nD2 k2 eD2 lz
          exact ⟨D2, _, rfl, .inl ⟨SqL.of eD2, fun p np => hQ _ _ (same_upd k2 np) (TupR.new sgR.mn lz np)⟩⟩
      · exact fin _ rfl
    rw [decide_eq_false k1]
    refine ⟨_, rfl, rfl, _, congrArg V.bl (ne 3 (by decide)), ?_⟩
    by_cases k3 : k = 3
    · rw [decide_eq_true k3]
      subst k3
      have fin := fun l2 e => mk l2 e
      refine ⟨_, rfl, a, rfl, ⟨_, SqT.of ea⟩, lc_map (K := K) (R := PgR) (S := PgR) (f := fun p => p.map (rowsN)) ea lv (by have := hok.1; omega) PgR.mn (fun i x pg H1 QQ NN k1 hx epg hpg hQ => ?_) ?_⟩
      · obtain ⟨b, bs, rfl, eb, lb⟩ := (PgR.mn.to hpg (TK.same k1))
        have pok := lk_ok hok epg
        have es1 := TK.same k1 _ _ e0
        refine ⟨rfl, _, rfl, b, rfl, ⟨_, SqT.of eb⟩, lc_map (K := K) (R := sgR) (S := sgR) (f := rowsN) eb lb (by have := pok.1; omega) sgR.mn (fun j y r H2 QQ2 NN2 k2 hy er hyr hQ2 => ?_) ?_⟩
        · have hyr : y = sV r := hyr
          subst hyr
          have rl := pok.2 r (List.mem_of_getElem? er)
          refine ⟨rfl, _, rfl, 35, mkS r, by rw [hash_mk]; rfl, rfl, _, rfl, ?_⟩
          rw [in_hash]
          have e : sV (rowsN r) = if hasC r = true then sV (wholeN r) else sV r := by unfold rowsN; split <;> rfl
          have hq := fun y (h : y = sV (rowsN r)) => hQ2 y H2 (Same.refl _) h
          rw [e] at hq
          generalize hasC r = hc at hq
          cases hc with
          | true => exact ⟨_, rfl, r, rfl, by omega, hq _ rfl⟩
          | false => exact ⟨_, rfl, hq _ rfl⟩
        · intro D2 H2 zs nD2 k2 eD2 lz
          exact ⟨D2, _, rfl, .inl ⟨SqL.of eD2, fun p np => hQ _ _ (same_upd k2 np) (TupR.new sgR.mn lz np)⟩⟩
      · exact fin _ rfl
    rw [decide_eq_false k3]
    refine ⟨_, rfl, rfl, _, congrArg V.bl (ne 4 (by decide)), ?_⟩
    by_cases k4 : k = 4
    · rw [decide_eq_true k4]
      subst k4
      have fin := fun l2 e => mk l2 e
      refine ⟨_, rfl, a, rfl, ⟨_, SqT.of ea⟩, lc_map (K := K) (R := PgR) (S := PgR) (f := blocksN) ea lv (by have := hok.1; omega) PgR.mn (fun i x pg H1 QQ NN k1 hx epg hpg hQ => ?_) ?_⟩
      · have hpg := PgR.mn.to hpg (TK.same k1)
        have pok := lk_ok hok epg
        obtain ⟨b, rfl, eb⟩ := PgR.iff.mp hpg
        exact ⟨rfl, _, rfl, _, pg, rfl, hpg, pok, fun H3 u k3 hu => hQ _ _ k3 hu⟩
      · exact fin _ rfl
    rw [decide_eq_false k4]
    refine ⟨_, rfl, rfl, _, congrArg V.bl (ne 5 (by decide)), ?_⟩
    by_cases k5 : k = 5
    · rw [decide_eq_true k5]
      subst k5
      have fin := fun l2 e => mk l2 e
      refine ⟨_, rfl, a, rfl, ⟨_, SqT.of ea⟩, lc_map (K := K) (R := PgR) (S := PgR) (f := pagesN) ea lv (by have := hok.1; omega) PgR.mn (fun i x pg H1 QQ NN k1 hx epg hpg hQ => ?_) ?_⟩
      · have hpg := PgR.mn.to hpg (TK.same k1)
        have pok := lk_ok hok epg
        obtain ⟨b, rfl, eb⟩ := PgR.iff.mp hpg
        refine ⟨rfl, _, rfl, b, pg, rfl, .inl eb, pok.1, fun H3 k3 => ⟨_, rfl, ?_⟩⟩
        have hpg3 := PgR.mn.to hpg (TK.same k3)
        have hq := fun y H4 (k4 : Same H3 H4) (h : PgR H4 y (pagesN pg)) => hQ y H4 (k3.trans k4) h
        unfold pagesN at hq
        generalize pg.any hasC = hc at hq
        cases hc with
        | true => exact ⟨_, rfl, _, pg, rfl, hpg3, pok, fun H4 u k4 hu => hq _ _ k4 hu⟩
        | false => exact ⟨_, rfl, hq _ _ (Same.refl _) hpg3⟩
      · exact fin _ rfl
    rw [decide_eq_false k5]
    refine ⟨_, rfl, rfl, _, congrArg V.bl (ne 6 (by decide)), ?_⟩
    by_cases k6 : k = 6
    · rw [decide_eq_true k6]
      subst k6
      exact ⟨_, rfl, _, l, rfl, ⟨a, us, rfl, ea, lv⟩, hok, q⟩
    rw [decide_eq_false k6]
    refine ⟨_, rfl, rfl, _, congrArg V.bl (ne 7 (by decide)), ?_⟩
    by_cases k7 : k = 7
    · rw [decide_eq_true k7]
      subst k7
      have fin := fun l2 e => mk l2 e
      refine ⟨_, rfl, a, rfl, ⟨_, SqT.of ea⟩, lc_map (K := K) (R := PgR) (S := PgR) (f := fun p => p.map wholeN) ea lv (by have := hok.1; omega) PgR.mn (fun i x pg H1 QQ NN k1 hx epg hpg hQ => ?_) ?_⟩
      · have hpg := PgR.mn.to hpg (TK.same k1)
        have pok := lk_ok hok epg
        obtain ⟨b, rfl, eb⟩ := PgR.iff.mp hpg
        exact ⟨rfl, _, rfl, _, pg, rfl, hpg, pok, fun H3 u k3 hu => hQ _ _ k3 hu⟩
      · exact fin _ rfl
    rw [decide_eq_false k7]
    have k2 : k = 2 := by omega
    subst k2
    refine ⟨_, rfl, _, rfl, sa, _, _, _, rfl, rfl, SqT.of (h1 (by decide)), atI_nat (j := 1) rfl, _, rfl, ?_⟩
    refine slA_any ea fun b H' k' eb => q _ _ k' ⟨b, _, rfl, eb, ?_⟩
    rw [show cutV us none (some ((n : Nat) : Int)) = us.take n from by
      unfold cutV
      rw [HT.sIx_none, HT.sIx_nat, List.drop_zero, Nat.sub_zero]
      by_cases c : n ≤ us.length
      · rw [Nat.min_eq_left c]
      · rw [Nat.min_eq_right (by omega), List.take_length, List.take_of_length_le (by omega)]]
    exact (lv.mono fun _ _ z => PgR.mn.to z (TK.same k')).takeN n
end
end Vf

set_option Elab.async false
set_option linter.all false
set_option maxRecDepth 100000
set_option maxHeartbeats 4000000
namespace Vf
open PySem PySem.Spec PyProof.Rows L2 TL
/-! ### what curtains do, whatever the look -/
def paintN (B : Rw → Nat → Bool) (r : Rw) : Rw := (List.range r.length).map fun x => if B r x = true then 35 else r.getD x 0
theorem paint_len (B : Rw → Nat → Bool) (r : Rw) : (paintN B r).length = r.length := by unfold paintN; rw [List.length_map, List.length_range]
theorem paint_at {B : Rw → Nat → Bool} {r : Rw} {x : Nat} (h : x < r.length) : (paintN B r).getD x 0 = if B r x = true then 35 else r.getD x 0 := by
  refine getD_of ?_
  unfold paintN
  rw [List.getElem?_map, List.getElem?_range h]; rfl
theorem rw_ext {a b : Rw} (hl : a.length = b.length) (h : ∀ x, x < a.length → a.getD x 0 = b.getD x 0) : a = b := by
  refine List.ext_getElem hl fun i h1 h2 => ?_
  have := h i h1
  rw [List.getD_eq_getElem?_getD, List.getD_eq_getElem?_getD, List.getElem?_eq_getElem h1, List.getElem?_eq_getElem h2] at this
  exact this
theorem pg_ext {a b : Pg} (hl : a.length = b.length) (h : ∀ x, x < a.length → a.getD x [] = b.getD x []) : a = b := by
  refine List.ext_getElem hl fun i h1 h2 => ?_
  have := h i h1
  rw [List.getD_eq_getElem?_getD, List.getD_eq_getElem?_getD, List.getElem?_eq_getElem h1, List.getElem?_eq_getElem h2] at this
  exact this
theorem has_at {r : Rw} : hasC r = true ↔ ∃ x, x < r.length ∧ r.getD x 0 = 35 := by
  constructor
  · intro h
    obtain ⟨i, hi, e⟩ := mem_at (of_decide_eq_true h)
    exact ⟨i, hi, getD_of e⟩
  · rintro ⟨x, hx, e⟩
    refine decide_eq_true ?_
    rw [← e]; exact getD_mem hx
theorem has_no {r : Rw} (h : hasC r = false) {x : Nat} (hx : x < r.length) : r.getD x 0 ≠ 35 := fun e => by
  rw [has_at.mpr ⟨x, hx, e⟩] at h; cases h
/-- what a kind does to a row -/
structure RG (g : Rw → Rw) : Prop where
  has : ∀ r, hasC (g r) = hasC r
  len : ∀ r, (g r).length = r.length
  whole : ∀ k, g (List.replicate k 35) = List.replicate k 35
  none : ∀ r, hasC r = false → g r = r
  cov : ∀ r x, x < r.length → (g r).getD x 0 = 35 ∨ (g r).getD x 0 = r.getD x 0
theorem RG.paint {B : Rw → Nat → Bool} (b1 : ∀ r x, x < r.length → r.getD x 0 = 35 → B r x = true) (b0 : ∀ r x, x < r.length → hasC r = false → B r x = false) : RG (paintN B) := by
  have no : ∀ r, hasC r = false → paintN B r = r := fun r h => rw_ext (paint_len B r) fun x hx => by
    rw [paint_len] at hx
    rw [paint_at hx, b0 r x hx h, if_neg Bool.false_ne_true]
  refine ⟨fun r => ?_, paint_len B, fun k => rw_ext (paint_len B _) fun x hx => ?_, no, fun r x hx => ?_⟩
  · cases h : hasC r with
    | false => rw [no r h, h]
    | true =>
      obtain ⟨x, hx, e⟩ := has_at.mp h
      exact has_at.mpr ⟨x, by rw [paint_len]; exact hx, by rw [paint_at hx, b1 r x hx e, if_pos rfl]⟩
  · rw [paint_len] at hx
    have hx2 : x < k := by rw [List.length_replicate] at hx; exact hx
    have e : (List.replicate k 35).getD x 0 = 35 := getD_of (by rw [List.getElem?_replicate, if_pos hx2])
    rw [paint_at hx, e]
    split <;> rfl
  · rw [paint_at hx]
    split
    · exact .inl rfl
    · exact .inr rfl
theorem wide_RG (n : Nat) : RG (wideN n) := RG.paint (B := nearB n) (fun r x hx e => List.any_eq_true.mpr ⟨x, List.mem_range.mpr hx, by rw [e, decide_eq_true rfl, Bool.true_and, Bool.and_eq_true]; exact ⟨decide_eq_true (Nat.le_add_right _ _), decide_eq_true (Nat.le_add_right _ _)⟩⟩)
  fun r x hx h => List.any_eq_false.mpr fun y hy z => by
    rw [Bool.and_eq_true] at z
    exact has_no h (List.mem_range.mp hy) (of_decide_eq_true z.1)
theorem evS_no {n : Nat} {r : Rw} (h : hasC r = false) : ∀ x, x ≤ r.length → evS n r x = 0
  | 0, _ => rfl
  | x + 1, hx => by
    rw [evS_succ (by omega), evS_no h x (by omega)]
    unfold evStep evB
    rw [decide_eq_false (has_no h (show x < r.length by omega))]
    simp
theorem even_RG (n : Nat) : RG (evenN n) := RG.paint (B := fun r x => evB n (evS n r x) (r.getD x 0)) (fun r x hx e => by show evB _ _ _ = true; unfold evB; rw [e, decide_eq_true rfl, Bool.true_or]) fun r x hx h => by
    show evB _ _ _ = false
    rw [evS_no h x (Nat.le_of_lt hx)]
    unfold evB
    rw [decide_eq_false (has_no h hx)]
    simp
theorem whole_paint (r : Rw) : wholeN r = paintN (fun _ _ => true) r := by
  refine rw_ext (by rw [paint_len]; unfold wholeN; rw [List.length_replicate]) fun x hx => ?_
  have hx2 : x < r.length := by unfold wholeN at hx; rw [List.length_replicate] at hx; exact hx
  rw [paint_at hx2, if_pos rfl]
  exact getD_of (by unfold wholeN; rw [List.getElem?_replicate, if_pos hx2])
theorem rows_paint (r : Rw) : rowsN r = paintN (fun r _ => hasC r) r := by
  cases h : hasC r with
  | true =>
    unfold rowsN
    rw [if_pos h, whole_paint]
    unfold paintN
    refine List.map_congr_left fun x _ => ?_
    show (if true = true then _ else _) = (if hasC r = true then _ else _)
    rw [h]
  | false =>
    unfold rowsN
    rw [if_neg (by rw [h]; decide)]
    refine rw_ext (paint_len _ _).symm fun x hx => ?_
    rw [paint_at hx, h, if_neg Bool.false_ne_true]
theorem rows_RG : RG rowsN := by
  have e : rowsN = paintN (fun r _ => hasC r) := funext rows_paint
  rw [e]
  exact RG.paint (fun r x hx e => has_at.mpr ⟨x, hx, e⟩) fun r x hx h => h
theorem whole_len (r : Rw) : (wholeN r).length = r.length := by unfold wholeN; rw [List.length_replicate]
theorem whole_of {a b : Rw} (h : a.length = b.length) : wholeN a = wholeN b := by unfold wholeN; rw [h]
theorem whole_has {r : Rw} (h : hasC r = true) : hasC (wholeN r) = true := by
  obtain ⟨x, hx, _⟩ := has_at.mp h
  exact has_at.mpr ⟨x, by rw [whole_len]; exact hx, getD_of (by unfold wholeN; rw [List.getElem?_replicate, if_pos hx])⟩
theorem whole_cov (r : Rw) (x : Nat) (hx : x < r.length) : (wholeN r).getD x 0 = 35 := getD_of (by unfold wholeN; rw [List.getElem?_replicate, if_pos hx])
/-! a kind upon a kind: rows -/
theorem RG.rows1 {g : Rw → Rw} (G : RG g) (r : Rw) : rowsN (g r) = rowsN r := by
  unfold rowsN
  rw [G.has]
  by_cases h : hasC r = true
  · rw [if_pos h, if_pos h, whole_of (G.len r)]
  · rw [if_neg h, if_neg h, G.none r (Bool.eq_false_iff.mpr h)]
theorem RG.rows2 {g : Rw → Rw} (G : RG g) (r : Rw) : g (rowsN r) = rowsN r := by
  unfold rowsN
  by_cases h : hasC r = true
  · rw [if_pos h]; exact G.whole _
  · rw [if_neg h, G.none r (Bool.eq_false_iff.mpr h)]
/-! pages -/
def pgPaint (B : Pg → Nat → Bool) (p : Pg) : Pg := (List.range p.length).map fun k => if B p k = true then wholeN (p.getD k []) else p.getD k []
theorem pgP_len (B : Pg → Nat → Bool) (p : Pg) : (pgPaint B p).length = p.length := by unfold pgPaint; rw [List.length_map, List.length_range]
theorem pgP_at {B : Pg → Nat → Bool} {p : Pg} {k : Nat} (h : k < p.length) : (pgPaint B p).getD k [] = if B p k = true then wholeN (p.getD k []) else p.getD k [] := by
  refine getD_of ?_
  unfold pgPaint
  rw [List.getElem?_map, List.getElem?_range h]; rfl
theorem map_at {g : Rw → Rw} {p : Pg} {k : Nat} (h : k < p.length) : (p.map g).getD k [] = g (p.getD k []) := by
  refine getD_of ?_
  rw [List.getElem?_map, List.getD_eq_getElem?_getD, List.getElem?_eq_getElem h]; rfl
theorem any_at {p : Pg} : p.any hasC = true ↔ ∃ k, k < p.length ∧ hasC (p.getD k []) = true := by
  constructor
  · intro h
    obtain ⟨r, hr, hc⟩ := List.any_eq_true.mp h
    obtain ⟨i, hi, e⟩ := mem_at hr
    exact ⟨i, hi, by rw [getD_of e]; exact hc⟩
  · rintro ⟨k, hk, h⟩
    exact List.any_eq_true.mpr ⟨_, getD_mem hk, h⟩
theorem any_no {p : Pg} (h : p.any hasC = false) {k : Nat} (hk : k < p.length) : hasC (p.getD k []) = false := by
  cases z : hasC (p.getD k []) with
  | false => rfl
  | true => rw [any_at.mpr ⟨k, hk, z⟩] at h; cases h
structure PG (h : Pg → Pg) : Prop where
  has : ∀ p, (h p).any hasC = p.any hasC
  len : ∀ p, (h p).length = p.length
  lens : ∀ p k, k < p.length → ((h p).getD k []).length = (p.getD k []).length
  whole : ∀ p : Pg, h (p.map wholeN) = p.map wholeN
  none : ∀ p, p.any hasC = false → h p = p
theorem whole_idem (r : Rw) : wholeN (wholeN r) = wholeN r := whole_of (whole_len r)
theorem RG.wholeN {g : Rw → Rw} (G : RG g) (r : Rw) : g (wholeN r) = Vf.wholeN r := G.whole _
theorem RG.pg {g : Rw → Rw} (G : RG g) : PG fun p => p.map g := by
  refine ⟨fun p => ?_, fun p => List.length_map _, fun p k hk => by rw [map_at hk, G.len], fun p => ?_, fun p h => ?_⟩
  · rw [List.any_map]
    exact any_congr2 fun r _ => G.has r
  · rw [List.map_map]
    exact List.map_congr_left fun r _ => G.wholeN r
  · refine pg_ext (List.length_map _) fun k hk => ?_
    rw [List.length_map] at hk
    rw [map_at hk, G.none _ (any_no h hk)]
theorem PG.paint {B : Pg → Nat → Bool} (b1 : ∀ p k, k < p.length → hasC (p.getD k []) = true → B p k = true ∨ True) (b0 : ∀ p k, k < p.length → p.any hasC = false → B p k = false) : PG (pgPaint B) := by
  have no : ∀ p, p.any hasC = false → pgPaint B p = p := fun p h => pg_ext (pgP_len B p) fun k hk => by
    rw [pgP_len] at hk
    rw [pgP_at hk, b0 p k hk h, if_neg Bool.false_ne_true]
  refine ⟨fun p => ?_, pgP_len B, fun p k hk => ?_, fun p => pg_ext (pgP_len B _) fun k hk => ?_, no⟩
  · cases h : p.any hasC with
    | false => rw [no p h, h]
    | true =>
      obtain ⟨k, hk, e⟩ := any_at.mp h
      refine any_at.mpr ⟨k, by rw [pgP_len]; exact hk, ?_⟩
      rw [pgP_at hk]
      split
      · exact whole_has e
      · exact e
  · rw [pgP_at hk]
    split
    · exact whole_len _
    · rfl
  · rw [pgP_len] at hk
    rw [pgP_at hk]
    rw [List.length_map] at hk
    rw [map_at hk, whole_idem]
    split <;> rfl
theorem out_eq (p : Pg) : blocksN p = pgPaint (fun p k => hitB p (mkB p k) && !blankN (p.getD k [])) p := blocks_out p
theorem hit_at {p : Pg} {k : Nat} (hk : k < p.length) (h : hasC (p.getD k []) = true) : hitB p (mkB p k) = true := List.any_eq_true.mpr ⟨k, List.mem_range.mpr hk, by rw [h, Bool.true_and]; exact decide_eq_true rfl⟩
theorem hit_no {p : Pg} (h : p.any hasC = false) (j : Nat) : hitB p j = false := List.any_eq_false.mpr fun k hk z => by
  rw [any_no h (List.mem_range.mp hk), Bool.false_and] at z; cases z
theorem blocks_PG : PG blocksN := by
  rw [show blocksN = pgPaint (fun p k => hitB p (mkB p k) && !blankN (p.getD k [])) from funext out_eq]
  exact PG.paint (fun _ _ _ _ => .inr trivial) fun p k hk h => by show (hitB p (mkB p k) && _) = false; rw [hit_no h, Bool.false_and]
theorem pages_paint (p : Pg) : pagesN p = pgPaint (fun p _ => p.any hasC) p := by
  unfold pagesN
  by_cases h : p.any hasC = true
  · rw [if_pos h]
    refine pg_ext (by rw [pgP_len, List.length_map]) fun k hk => ?_
    rw [List.length_map] at hk
    rw [map_at hk, pgP_at hk, if_pos h]
  · rw [if_neg h]
    refine pg_ext (pgP_len _ _).symm fun k hk => ?_
    rw [pgP_at hk, if_neg h]
theorem pages_PG : PG pagesN := by
  rw [show pagesN = pgPaint (fun p _ => p.any hasC) from funext pages_paint]
  exact PG.paint (fun _ _ _ _ => .inr trivial) fun p k hk h => h
theorem all_paint (p : Pg) : p.map wholeN = pgPaint (fun _ _ => true) p := by
  refine pg_ext (by rw [pgP_len, List.length_map]) fun k hk => ?_
  rw [List.length_map] at hk
  rw [map_at hk, pgP_at hk, if_pos rfl]
theorem PG.all1 {h : Pg → Pg} (G : PG h) (p : Pg) : (h p).map wholeN = p.map wholeN := by
  refine pg_ext (by rw [List.length_map, List.length_map, G.len]) fun k hk => ?_
  rw [List.length_map] at hk
  rw [map_at hk]
  rw [G.len] at hk
  rw [map_at hk, whole_of (G.lens p k hk)]
theorem all_all (p : Pg) : (p.map wholeN).map wholeN = p.map wholeN := by
  rw [List.map_map]
  exact List.map_congr_left fun r _ => whole_idem r
theorem PG.pages1 {h : Pg → Pg} (G : PG h) (p : Pg) : pagesN (h p) = pagesN p := by
  unfold pagesN
  rw [G.has]
  by_cases z : p.any hasC = true
  · rw [if_pos z, if_pos z, G.all1]
  · rw [if_neg z, if_neg z, G.none p (Bool.eq_false_iff.mpr z)]
theorem PG.pages2 {h : Pg → Pg} (G : PG h) (p : Pg) : h (pagesN p) = pagesN p := by
  unfold pagesN
  by_cases z : p.any hasC = true
  · rw [if_pos z]; exact G.whole p
  · rw [if_neg z, G.none p (Bool.eq_false_iff.mpr z)]
/-! blocks -/
theorem mkB_congr {p q : Pg} (hl : p.length = q.length) (h : ∀ k, k < p.length → blankN (q.getD k []) = blankN (p.getD k [])) (k : Nat) : mkB q k = mkB p k := by
  unfold mkB
  have e : ∀ (a b : Pg), a.length = b.length → (∀ i, i < a.length → blankN (b.getD i []) = blankN (a.getD i [])) → (a.filter blankN).length = (b.filter blankN).length := by
    intro a
    induction a with
    | nil => intro b hb _; rw [List.eq_nil_of_length_eq_zero hb.symm]
    | cons x a ih =>
      intro b hb hh
      cases b with
      | nil => cases hb
      | cons y b =>
        have h0 : blankN y = blankN x := hh 0 (Nat.succ_pos _)
        have ih := ih b (Nat.succ.inj hb) fun i hi => hh (i + 1) (Nat.succ_lt_succ hi)
        by_cases c : blankN x = true
        · rw [List.filter_cons_of_pos c, List.filter_cons_of_pos (h0.trans c), List.length_cons, List.length_cons, ih]
        · rw [List.filter_cons_of_neg c, List.filter_cons_of_neg (by rw [h0]; exact c), ih]
  refine (e _ _ (by rw [List.length_take, List.length_take, hl]) fun i hi => ?_).symm
  rw [List.length_take] at hi
  rw [List.getD_eq_getElem?_getD, List.getD_eq_getElem?_getD, List.getElem?_take, List.getElem?_take, if_pos (by omega), if_pos (by omega), ← List.getD_eq_getElem?_getD, ← List.getD_eq_getElem?_getD]
  exact h i (by omega)
theorem hit_congr {p q : Pg} (hl : p.length = q.length) (hb : ∀ k, k < p.length → blankN (q.getD k []) = blankN (p.getD k [])) (hc : ∀ k, k < p.length → hasC (q.getD k []) = hasC (p.getD k [])) (j : Nat) : hitB q j = hitB p j := by
  unfold hitB
  rw [← hl]
  exact any_congr2 fun k hk => by rw [hc k (List.mem_range.mp hk), mkB_congr hl hb]
theorem RG.blank {g : Rw → Rw} (G : RG g) (r : Rw) : blankN (g r) = blankN r := by
  cases h : hasC r with
  | false => rw [G.none r h]
  | true =>
    have no : ∀ q : Rw, hasC q = true → blankN q = false := fun q hq => by
      cases z : blankN q with
      | false => rfl
      | true => rw [blank_no z] at hq; cases hq
    rw [no r h, no _ ((G.has r).trans h)]
theorem RG.blocks1 {g : Rw → Rw} (G : RG g) (p : Pg) : blocksN (p.map g) = blocksN p := by
  have hl : p.length = (p.map g).length := (List.length_map _).symm
  have hb : ∀ k, k < p.length → blankN ((p.map g).getD k []) = blankN (p.getD k []) := fun k hk => by rw [map_at hk, G.blank]
  have hc : ∀ k, k < p.length → hasC ((p.map g).getD k []) = hasC (p.getD k []) := fun k hk => by rw [map_at hk, G.has]
  rw [out_eq, out_eq]
  refine pg_ext (by rw [pgP_len, pgP_len, ← hl]) fun k hk => ?_
  rw [pgP_len, ← hl] at hk
  rw [pgP_at (by rw [← hl]; exact hk), pgP_at hk, hit_congr hl hb hc, mkB_congr hl hb, hb k hk, map_at hk]
  split
  · exact whole_of (G.len _)
  · next z =>
    refine G.none _ ?_
    cases c : hasC (p.getD k []) with
    | false => rfl
    | true =>
      refine absurd ?_ z
      rw [hit_at hk c, Bool.true_and]
      cases w : blankN (p.getD k []) with
      | false => rfl
      | true => rw [blank_no w] at c; cases c
theorem out_no {p : Pg} {k : Nat} (hk : k < p.length) (z : ¬ (hitB p (mkB p k) && !blankN (p.getD k [])) = true) : hasC (p.getD k []) = false := by
  cases c : hasC (p.getD k []) with
  | false => rfl
  | true =>
    refine absurd ?_ z
    rw [hit_at hk c, Bool.true_and]
    cases w : blankN (p.getD k []) with
    | false => rfl
    | true => rw [blank_no w] at c; cases c
theorem RG.blocks2 {g : Rw → Rw} (G : RG g) (p : Pg) : (blocksN p).map g = blocksN p := by
  rw [out_eq]
  refine pg_ext (List.length_map _) fun k hk => ?_
  rw [List.length_map] at hk
  rw [map_at hk]
  rw [pgP_len] at hk
  rw [pgP_at hk]
  split
  · exact G.wholeN _
  · next z => exact G.none _ (out_no hk z)
theorem whole_blank {r : Rw} (h : blankN r = false) : blankN (wholeN r) = false := by
  cases r with
  | nil => exact absurd h (by decide)
  | cons c r =>
    refine decide_eq_false fun e => ?_
    have := congrArg (fun l => l.getD 0 0) e
    have this : (35 : Nat) = 32 := this
    omega
theorem blocks_blocks (p : Pg) : blocksN (blocksN p) = blocksN p := by
  have hl : p.length = (blocksN p).length := (blocks_PG.len p).symm
  have at_ : ∀ k, k < p.length → (blocksN p).getD k [] = outB p k := fun k hk => (b_inv p).all.2 k hk
  have hb : ∀ k, k < p.length → blankN ((blocksN p).getD k []) = blankN (p.getD k []) := fun k hk => by
    rw [at_ k hk]
    unfold outB
    split
    · next z =>
      rw [Bool.and_eq_true, Bool.not_eq_true'] at z
      rw [whole_blank z.2, z.2]
    · rfl
  have hit : ∀ j, hitB (blocksN p) j = hitB p j := fun j => by
    cases e : hitB p j with
    | true =>
      obtain ⟨k, hk, h⟩ := List.any_eq_true.mp e
      have hk := List.mem_range.mp hk
      rw [Bool.and_eq_true] at h
      refine List.any_eq_true.mpr ⟨k, List.mem_range.mpr (by rw [← hl]; exact hk), ?_⟩
      rw [at_ k hk, mkB_congr hl hb, h.2, Bool.and_true]
      unfold outB
      split
      · exact whole_has h.1
      · exact h.1
    | false =>
      refine List.any_eq_false.mpr fun k hk z => ?_
      have hk : k < p.length := by rw [hl]; exact List.mem_range.mp hk
      rw [at_ k hk, mkB_congr hl hb, Bool.and_eq_true] at z
      have z2 := of_decide_eq_true z.2
      have hp : hitB p (mkB p k) = true := by
        have z1 := z.1
        unfold outB at z1
        split at z1
        · next w => rw [Bool.and_eq_true] at w; exact w.1
        · exact hit_at hk z1
      rw [z2, e] at hp; cases hp
  refine pg_ext (by rw [blocks_PG.len]) fun k hk => ?_
  rw [blocks_PG.len, ← hl] at hk
  rw [(b_inv (blocksN p)).all.2 k (by rw [← hl]; exact hk), at_ k hk]
  show (if (hitB (blocksN p) (mkB (blocksN p) k) && !blankN ((blocksN p).getD k [])) = true then _ else _) = _
  rw [hit, mkB_congr hl hb, hb k hk, at_ k hk]
  unfold outB
  split
  · exact whole_idem _
  · rfl
end Vf

set_option Elab.async false
set_option linter.all false
set_option maxRecDepth 100000
set_option maxHeartbeats 4000000
namespace Vf
open PySem PySem.Spec PyProof.Rows L2 TL
/-! below -/
theorem bg_iff {l : List Pg} {p r : Nat} (hp : p < l.length) : bgB l p r = true ↔ ∃ i j, i < l.length ∧ j < (l.getD i []).length ∧ hasC ((l.getD i []).getD j []) = true ∧ (i < p ∨ (i = p ∧ j ≤ r)) := by
  unfold bgB
  rw [Bool.or_eq_true]
  constructor
  · rintro (h | h)
    · obtain ⟨pg, hpg, hc⟩ := List.any_eq_true.mp h
      obtain ⟨i, hi, ei⟩ := mem_at hpg
      rw [List.length_take] at hi
      rw [List.getElem?_take, if_pos (by omega)] at ei
      obtain ⟨j, hj, e⟩ := any_at.mp hc
      have e1 : l.getD i [] = pg := getD_of ei
      exact ⟨i, j, by omega, by rw [e1]; exact hj, by rw [e1]; exact e, .inl (by omega)⟩
    · obtain ⟨j, hj, e⟩ := any_at.mp h
      rw [List.length_take] at hj
      rw [List.getD_eq_getElem?_getD, List.getElem?_take, if_pos (by omega), ← List.getD_eq_getElem?_getD] at e
      exact ⟨p, j, hp, by omega, e, .inr ⟨rfl, by omega⟩⟩
  · rintro ⟨i, j, hi, hj, e, h | ⟨rfl, h⟩⟩
    · refine .inl (List.any_eq_true.mpr ⟨l.getD i [], ?_, any_at.mpr ⟨j, hj, e⟩⟩)
      refine List.mem_iff_getElem?.mpr ⟨i, ?_⟩
      rw [List.getElem?_take, if_pos h, List.getD_eq_getElem?_getD, List.getElem?_eq_getElem hi]; rfl
    · refine .inr (any_at.mpr ⟨j, by rw [List.length_take]; omega, ?_⟩)
      rw [List.getD_eq_getElem?_getD, List.getElem?_take, if_pos (by omega), ← List.getD_eq_getElem?_getD]
      exact e
theorem bool_ext {a b : Bool} (h : a = true ↔ b = true) : a = b := by
  cases a <;> cases b <;> simp_all
theorem bg_congr {l m : List Pg} (hl : m.length = l.length) (hls : ∀ p, p < l.length → (m.getD p []).length = (l.getD p []).length) (hc : ∀ p r, p < l.length → r < (l.getD p []).length → hasC ((m.getD p []).getD r []) = hasC ((l.getD p []).getD r [])) {p r : Nat} (hp : p < l.length) : bgB m p r = bgB l p r := by
  refine bool_ext ((bg_iff (by rw [hl]; exact hp)).trans (Iff.trans ?_ (bg_iff hp).symm))
  constructor
  · rintro ⟨i, j, hi, hj, e, o⟩
    rw [hl] at hi
    rw [hls i hi] at hj
    exact ⟨i, j, hi, hj, by rw [← hc i j hi hj]; exact e, o⟩
  · rintro ⟨i, j, hi, hj, e, o⟩
    exact ⟨i, j, by rw [hl]; exact hi, by rw [hls i hi]; exact hj, by rw [hc i j hi hj]; exact e, o⟩
theorem lk_ext {m l : List Pg} (hl : m.length = l.length) (hls : ∀ p, p < l.length → (m.getD p []).length = (l.getD p []).length) (h : ∀ p r, p < l.length → r < (l.getD p []).length → (m.getD p []).getD r [] = (l.getD p []).getD r []) : m = l := by
  refine List.ext_getElem hl fun i h1 h2 => ?_
  have e : m.getD i [] = l.getD i [] := pg_ext (hls i h2) fun x hx => h i x h2 (by rw [← hls i h2]; exact hx)
  rw [List.getD_eq_getElem?_getD, List.getD_eq_getElem?_getD, List.getElem?_eq_getElem h1, List.getElem?_eq_getElem h2] at e
  exact e
theorem bel_len (l : List Pg) : (belowN l).length = l.length := by unfold belowN; rw [List.length_map, List.length_range]
theorem bel_pg {l : List Pg} {p : Nat} (h : p < l.length) : (belowN l).getD p [] = (List.range (l.getD p []).length).map (rowBel l p) := by
  refine getD_of ?_
  unfold belowN
  rw [List.getElem?_map, List.getElem?_range h]; rfl
theorem bel_lens {l : List Pg} {p : Nat} (h : p < l.length) : ((belowN l).getD p []).length = (l.getD p []).length := by rw [bel_pg h, List.length_map, List.length_range]
theorem bel_at {l : List Pg} {p r : Nat} (h : p < l.length) (hr : r < (l.getD p []).length) : ((belowN l).getD p []).getD r [] = rowBel l p r := by
  rw [bel_pg h]
  refine getD_of ?_
  rw [List.getElem?_map, List.getElem?_range hr]; rfl
theorem below_ext {m l : List Pg} (hl : m.length = l.length) (hls : ∀ p, p < l.length → (m.getD p []).length = (l.getD p []).length) (h : ∀ p r, p < l.length → r < (l.getD p []).length → (m.getD p []).getD r [] = rowBel l p r) : m = belowN l :=
  lk_ext (by rw [bel_len, hl]) (fun p hp => by rw [bel_len] at hp; rw [bel_lens hp, hls p hp]) fun p r hp hr => by
    rw [bel_len] at hp
    rw [bel_lens hp] at hr
    rw [bel_at hp hr, h p r hp hr]
theorem mapP_at {h : Pg → Pg} {l : List Pg} {p : Nat} (hp : p < l.length) : (l.map h).getD p [] = h (l.getD p []) := by
  refine getD_of ?_
  rw [List.getElem?_map, List.getD_eq_getElem?_getD, List.getElem?_eq_getElem hp]; rfl
theorem bg_no {l : List Pg} {p r : Nat} (hp : p < l.length) (hr : r < (l.getD p []).length) (h : ¬ bgB l p r = true) : hasC ((l.getD p []).getD r []) = false := by
  cases z : hasC ((l.getD p []).getD r []) with
  | false => rfl
  | true => exact absurd ((bg_iff hp).mpr ⟨p, r, hp, hr, z, .inr ⟨rfl, Nat.le_refl _⟩⟩) h
theorem RG.below1 {g : Rw → Rw} (G : RG g) (l : List Pg) : belowN (l.map fun p => p.map g) = belowN l := by
  have hl : (l.map fun p => p.map g).length = l.length := List.length_map _
  have hls : ∀ p, p < l.length → ((l.map fun p => p.map g).getD p []).length = (l.getD p []).length := fun p hp => by rw [mapP_at (h := fun p => p.map g) hp, List.length_map]
  have at_ : ∀ p r, p < l.length → r < (l.getD p []).length → ((l.map fun p => p.map g).getD p []).getD r [] = g ((l.getD p []).getD r []) := fun p r hp hr => by rw [mapP_at (h := fun p => p.map g) hp, map_at hr]
  refine below_ext (by rw [bel_len, hl]) (fun p hp => by rw [bel_lens (by rw [hl]; exact hp), hls p hp]) fun p r hp hr => ?_
  rw [bel_at (by rw [hl]; exact hp) (by rw [hls p hp]; exact hr)]
  unfold rowBel
  rw [bg_congr hl hls (fun p r hp hr => by rw [at_ p r hp hr, G.has]) hp, at_ p r hp hr]
  split
  · exact whole_of (G.len _)
  · next z => exact G.none _ (bg_no hp hr z)
theorem RG.below2 {g : Rw → Rw} (G : RG g) (l : List Pg) : ((belowN l).map fun p => p.map g) = belowN l := by
  refine below_ext (by rw [List.length_map, bel_len]) (fun p hp => by rw [mapP_at (h := fun p => p.map g) (by rw [bel_len]; exact hp), List.length_map, bel_lens hp]) fun p r hp hr => ?_
  rw [mapP_at (h := fun p => p.map g) (by rw [bel_len]; exact hp), map_at (by rw [bel_lens hp]; exact hr), bel_at hp hr]
  unfold rowBel
  split
  · exact G.wholeN _
  · next z => exact G.none _ (bg_no hp hr z)
theorem below_below (l : List Pg) : belowN (belowN l) = belowN l := by
  have bg : ∀ p r, p < l.length → r < (l.getD p []).length → bgB (belowN l) p r = bgB l p r := fun p r hp hr => by
    refine bool_ext ((bg_iff (by rw [bel_len]; exact hp)).trans ?_)
    constructor
    · rintro ⟨i, j, hi, hj, e, o⟩
      rw [bel_len] at hi
      rw [bel_lens hi] at hj
      rw [bel_at hi hj] at e
      have b : bgB l i j = true := by
        cases z : bgB l i j with
        | true => rfl
        | false =>
          have := bg_no hi hj (by rw [z]; decide)
          unfold rowBel at e
          rw [z, if_neg Bool.false_ne_true, this] at e
          cases e
      obtain ⟨i2, j2, h1, h2, h3, o2⟩ := (bg_iff hi).mp b
      refine (bg_iff hp).mpr ⟨i2, j2, h1, h2, h3, ?_⟩
      rcases o with o | ⟨o, o'⟩ <;> rcases o2 with q | ⟨q, q'⟩ <;> omega
    · intro h
      obtain ⟨i, j, hi, hj, e, o⟩ := (bg_iff hp).mp h
      refine ⟨i, j, by rw [bel_len]; exact hi, by rw [bel_lens hi]; exact hj, ?_, o⟩
      rw [bel_at hi hj]
      unfold rowBel
      split
      · exact whole_has e
      · exact e
  refine below_ext (by rw [bel_len, bel_len]) (fun p hp => by rw [bel_lens (by rw [bel_len]; exact hp), bel_lens hp]) fun p r hp hr => ?_
  rw [bel_at (by rw [bel_len]; exact hp) (by rw [bel_lens hp]; exact hr)]
  show (if bgB (belowN l) p r = true then wholeN (((belowN l).getD p []).getD r []) else ((belowN l).getD p []).getD r []) = _
  rw [bg p r hp hr, bel_at hp hr]
  unfold rowBel
  split
  · exact whole_idem _
  · rfl
def allN (l : List Pg) : List Pg := l.map fun p => p.map wholeN
theorem allN_at {l : List Pg} {p r : Nat} (hp : p < l.length) (hr : r < (l.getD p []).length) : ((allN l).getD p []).getD r [] = wholeN ((l.getD p []).getD r []) := by
  unfold allN
  rw [mapP_at (h := fun p => p.map wholeN) hp, map_at hr]
theorem allN_lens {l : List Pg} {p : Nat} (hp : p < l.length) : ((allN l).getD p []).length = (l.getD p []).length := by
  unfold allN
  rw [mapP_at (h := fun p => p.map wholeN) hp, List.length_map]
theorem allN_len (l : List Pg) : (allN l).length = l.length := List.length_map _
theorem below_all (l : List Pg) : belowN (allN l) = allN l := by
  refine lk_ext (bel_len _) (fun p hp => bel_lens hp) fun p r hp hr => ?_
  rw [bel_at hp hr]
  unfold rowBel
  split
  · rw [allN_len] at hp
    rw [allN_lens hp] at hr
    rw [allN_at hp hr, whole_idem]
  · rfl
theorem all_below (l : List Pg) : allN (belowN l) = allN l := by
  refine lk_ext (by rw [allN_len, allN_len, bel_len]) (fun p hp => ?_) fun p r hp hr => ?_
  · rw [allN_len] at hp
    rw [allN_lens (by rw [bel_len]; exact hp), allN_lens hp, bel_lens hp]
  · rw [allN_len] at hp
    rw [allN_lens hp] at hr
    rw [allN_at (by rw [bel_len]; exact hp) (by rw [bel_lens hp]; exact hr), allN_at hp hr, bel_at hp hr]
    unfold rowBel
    split
    · exact whole_idem _
    · rfl
/-! even twice, wide twice -/
theorem evB_idem (n s c : Nat) : evB n s (if evB n s c = true then 35 else c) = evB n s c := by
  by_cases h : evB n s c = true
  · rw [if_pos h, h]; unfold evB; rw [decide_eq_true rfl, Bool.true_or]
  · rw [if_neg h]
theorem even_len (n : Nat) (r : Rw) : (evenN n r).length = r.length := (even_RG n).len r
theorem even_at {n : Nat} {r : Rw} {x : Nat} (h : x < r.length) : (evenN n r).getD x 0 = if evB n (evS n r x) (r.getD x 0) = true then 35 else r.getD x 0 := paint_at (B := fun r x => evB n (evS n r x) (r.getD x 0)) h
theorem evS_even (n : Nat) (r : Rw) : ∀ x, x ≤ r.length → evS n (evenN n r) x = evS n r x
  | 0, _ => rfl
  | x + 1, hx => by
    rw [evS_succ (by rw [even_len]; omega), evS_succ (show x < r.length by omega), evS_even n r x (by omega), even_at (show x < r.length by omega)]
    unfold evStep
    rw [evB_idem]
theorem even_even (n : Nat) (r : Rw) : evenN n (evenN n r) = evenN n r := by
  refine rw_ext (even_len _ _) fun x hx => ?_
  rw [even_len, even_len] at hx
  rw [even_at (by rw [even_len]; exact hx), evS_even n r x (Nat.le_of_lt hx), even_at hx, evB_idem]
  split <;> rfl
theorem near_iff {n : Nat} {r : Rw} {x : Nat} : nearB n r x = true ↔ ∃ y, y < r.length ∧ r.getD y 0 = 35 ∧ x ≤ y + n ∧ y ≤ x + n := by
  unfold nearB
  rw [List.any_eq_true]
  constructor
  · rintro ⟨y, hy, h⟩
    rw [Bool.and_eq_true, Bool.and_eq_true] at h
    exact ⟨y, List.mem_range.mp hy, of_decide_eq_true h.1, of_decide_eq_true h.2.1, of_decide_eq_true h.2.2⟩
  · rintro ⟨y, hy, h1, h2, h3⟩
    refine ⟨y, List.mem_range.mpr hy, ?_⟩
    rw [Bool.and_eq_true, Bool.and_eq_true]
    exact ⟨decide_eq_true h1, decide_eq_true h2, decide_eq_true h3⟩
theorem wide_len (n : Nat) (r : Rw) : (wideN n r).length = r.length := (wide_RG n).len r
theorem wide_at {n : Nat} {r : Rw} {x : Nat} (h : x < r.length) : (wideN n r).getD x 0 = if nearB n r x = true then 35 else r.getD x 0 := paint_at (B := nearB n) h
theorem near_self {n : Nat} {r : Rw} {x : Nat} (h : x < r.length) (e : r.getD x 0 = 35) : nearB n r x = true := near_iff.mpr ⟨x, h, e, by omega, by omega⟩
theorem wide_wide (m n : Nat) (r : Rw) : wideN m (wideN n r) = wideN (m + n) r := by
  have near : ∀ x, x < r.length → nearB m (wideN n r) x = nearB (m + n) r x := fun x hx => by
    refine bool_ext (near_iff.trans (Iff.trans ?_ near_iff.symm))
    constructor
    · rintro ⟨y, hy, h1, h2, h3⟩
      rw [wide_len] at hy
      have : nearB n r y = true := by
        rw [wide_at hy] at h1
        split at h1
        · assumption
        · exact near_self hy h1
      obtain ⟨z, hz, g1, g2, g3⟩ := near_iff.mp this
      exact ⟨z, hz, g1, by omega, by omega⟩
    · rintro ⟨z, hz, h1, h2, h3⟩
      have pick : ∃ y, y < r.length ∧ y ≤ z + n ∧ z ≤ y + n ∧ x ≤ y + m ∧ y ≤ x + m := by
        by_cases c : x ≤ z
        · exact ⟨max x (z - n), by omega, by omega, by omega, by omega, by omega⟩
        · exact ⟨min x (z + n), by omega, by omega, by omega, by omega, by omega⟩
      obtain ⟨y, hy, a1, a2, a3, a4⟩ := pick
      refine ⟨y, by rw [wide_len]; exact hy, ?_, a3, a4⟩
      rw [wide_at hy, if_pos (near_iff.mpr ⟨z, hz, h1, a1, a2⟩)]
  refine rw_ext (by rw [wide_len, wide_len, wide_len]) fun x hx => ?_
  rw [wide_len, wide_len] at hx
  rw [wide_at (by rw [wide_len]; exact hx), near x hx, wide_at hx, wide_at hx]
  by_cases h : nearB (m + n) r x = true
  · rw [if_pos h, if_pos h]
  · rw [if_neg h, if_neg h, if_neg]
    intro z
    obtain ⟨y, hy, h1, h2, h3⟩ := near_iff.mp z
    exact h (near_iff.mpr ⟨y, hy, h1, by omega, by omega⟩)
/-! the first pages -/
theorem take_at {l : List Pg} {j p : Nat} (h : p < j) : (l.take j).getD p [] = l.getD p [] := by
  rw [List.getD_eq_getElem?_getD, List.getElem?_take, if_pos h, ← List.getD_eq_getElem?_getD]
theorem below_take (l : List Pg) (j : Nat) : belowN (l.take j) = (belowN l).take j := by
  symm
  refine below_ext (by rw [List.length_take, List.length_take, bel_len]) (fun p hp => ?_) fun p r hp hr => ?_
  · rw [List.length_take] at hp
    rw [take_at (by omega), take_at (by omega), bel_lens (by omega)]
  · rw [List.length_take] at hp
    rw [take_at (by omega)] at hr
    rw [take_at (by omega), bel_at (by omega) hr]
    unfold rowBel bgB
    rw [take_at (by omega), List.take_take, Nat.min_eq_left (by omega)]
theorem drawN_take {k n : Nat} (hk : k < 8) (h2 : k ≠ 2) (l : List Pg) (j : Nat) : drawN k n (l.take j) = (drawN k n l).take j := by
  match k, hk, h2 with
  | 0, _, _ => exact List.map_take
  | 1, _, _ => exact List.map_take
  | 3, _, _ => exact List.map_take
  | 4, _, _ => exact List.map_take
  | 5, _, _ => exact List.map_take
  | 7, _, _ => exact List.map_take
  | 6, _, _ => exact below_take l j
  | 2, _, h => exact absurd rfl h
end Vf

set_option Elab.async false
set_option linter.all false
set_option maxRecDepth 100000
set_option maxHeartbeats 4000000
namespace Vf
open PySem PySem.Spec PyProof.Rows L2 TL
/-! ### rows turned -/
structure RT (t : Rw → Rw) : Prop where
  has : ∀ r, hasC (t r) = hasC r
  len : ∀ r, (t r).length = r.length
  blank : ∀ r, blankN (t r) = blankN r
  whole : ∀ r, wholeN (t r) = t (wholeN r)
theorem RT.rows {t : Rw → Rw} (R : RT t) (r : Rw) : rowsN (t r) = t (rowsN r) := by
  unfold rowsN
  rw [R.has]
  by_cases h : hasC r = true
  · rw [if_pos h, if_pos h, R.whole]
  · rw [if_neg h, if_neg h]
theorem RT.any {t : Rw → Rw} (R : RT t) (p : Pg) : (p.map t).any hasC = p.any hasC := by
  rw [List.any_map]
  exact any_congr2 fun r _ => R.has r
theorem RT.all {t : Rw → Rw} (R : RT t) (p : Pg) : (p.map t).map wholeN = (p.map wholeN).map t := by
  rw [List.map_map, List.map_map]
  exact List.map_congr_left fun r _ => R.whole r
theorem RT.pages {t : Rw → Rw} (R : RT t) (p : Pg) : pagesN (p.map t) = (pagesN p).map t := by
  unfold pagesN
  rw [R.any]
  by_cases h : p.any hasC = true
  · rw [if_pos h, if_pos h, R.all]
  · rw [if_neg h, if_neg h]
theorem RT.blocks {t : Rw → Rw} (R : RT t) (p : Pg) : blocksN (p.map t) = (blocksN p).map t := by
  have hl : p.length = (p.map t).length := (List.length_map _).symm
  have hb : ∀ k, k < p.length → blankN ((p.map t).getD k []) = blankN (p.getD k []) := fun k hk => by rw [map_at hk, R.blank]
  have hc : ∀ k, k < p.length → hasC ((p.map t).getD k []) = hasC (p.getD k []) := fun k hk => by rw [map_at hk, R.has]
  rw [out_eq, out_eq]
  refine pg_ext (by rw [pgP_len, List.length_map, List.length_map, pgP_len]) fun k hk => ?_
  rw [pgP_len, ← hl] at hk
  rw [map_at (g := t) (p := pgPaint _ p) (by rw [pgP_len]; exact hk), pgP_at hk, pgP_at (by rw [← hl]; exact hk), hit_congr hl hb hc, mkB_congr hl hb, hb k hk, map_at hk]
  split
  · exact R.whole _
  · rfl
theorem RT.below {t : Rw → Rw} (R : RT t) (l : List Pg) : belowN (l.map fun p => p.map t) = (belowN l).map fun p => p.map t := by
  have hl : (l.map fun p => p.map t).length = l.length := List.length_map _
  have hls : ∀ p, p < l.length → ((l.map fun p => p.map t).getD p []).length = (l.getD p []).length := fun p hp => by rw [mapP_at (h := fun p => p.map t) hp, List.length_map]
  have at_ : ∀ p r, p < l.length → r < (l.getD p []).length → ((l.map fun p => p.map t).getD p []).getD r [] = t ((l.getD p []).getD r []) := fun p r hp hr => by rw [mapP_at (h := fun p => p.map t) hp, map_at hr]
  symm
  refine below_ext (by rw [List.length_map, bel_len, hl]) (fun p hp => ?_) fun p r hp hr => ?_
  · rw [hl] at hp
    rw [mapP_at (h := fun p => p.map t) (by rw [bel_len]; exact hp), List.length_map, bel_lens hp, hls p hp]
  · rw [hl] at hp
    rw [hls p hp] at hr
    rw [mapP_at (h := fun p => p.map t) (by rw [bel_len]; exact hp), map_at (by rw [bel_lens hp]; exact hr), bel_at hp hr]
    unfold rowBel
    rw [bg_congr hl hls (fun p r hp hr => by rw [at_ p r hp hr, R.has]) hp, at_ p r hp hr]
    split
    · exact (R.whole _).symm
    · rfl
def lkT (t : Rw → Rw) (l : List Pg) : List Pg := l.map fun p => p.map t
theorem lkT_map {t g : Rw → Rw} (h : ∀ r, g (t r) = t (g r)) (l : List Pg) : (lkT t l).map (fun p => p.map g) = lkT t (l.map fun p => p.map g) := by
  unfold lkT
  rw [List.map_map, List.map_map]
  refine List.map_congr_left fun p _ => ?_
  show (p.map t).map g = (p.map g).map t
  rw [List.map_map, List.map_map]
  exact List.map_congr_left fun r _ => h r
theorem lkT_pg {t : Rw → Rw} {h : Pg → Pg} (e : ∀ p : Pg, h (p.map t) = (h p).map t) (l : List Pg) : (lkT t l).map h = lkT t (l.map h) := by
  unfold lkT
  rw [List.map_map, List.map_map]
  exact List.map_congr_left fun p _ => e p
/-- which rows' turning goes with which kinds -/
theorem drawN_turn {t : Rw → Rw} (R : RT t) {k n : Nat} (hk : k < 8) (h2 : k ≠ 2) (hw : k = 0 → ∀ r, wideN n (t r) = t (wideN n r)) (he : k = 1 → ∀ r, evenN n (t r) = t (evenN n r)) (l : List Pg) : drawN k n (lkT t l) = lkT t (drawN k n l) := by
  match k, hk, h2, hw, he with
  | 0, _, _, hw, _ => exact lkT_map (hw rfl) l
  | 1, _, _, _, he => exact lkT_map (he rfl) l
  | 3, _, _, _, _ => exact lkT_map R.rows l
  | 4, _, _, _, _ => exact lkT_pg R.blocks l
  | 5, _, _, _, _ => exact lkT_pg R.pages l
  | 6, _, _, _, _ => exact R.below l
  | 7, _, _, _, _ => exact lkT_map R.whole l
  | 2, _, h, _, _ => exact absurd rfl h
/-! signs for signs -/
structure SgM (f : Nat → Nat) : Prop where
  c : f 35 = 35
  c2 : ∀ x, f x = 35 → x = 35
  b : ∀ x, f x = 32 ↔ x = 32
theorem sg_at {f : Nat → Nat} {r : Rw} {x : Nat} (h : x < r.length) : (r.map f).getD x 0 = f (r.getD x 0) := by
  refine getD_of ?_
  rw [List.getElem?_map, List.getD_eq_getElem?_getD, List.getElem?_eq_getElem h]; rfl
theorem SgM.is {f : Nat → Nat} (F : SgM f) (x : Nat) : decide (f x = 35) = decide (x = 35) := by
  by_cases h : x = 35
  · rw [decide_eq_true h, h, F.c]; rfl
  · rw [decide_eq_false h]; exact decide_eq_false fun z => h (F.c2 x z)
theorem SgM.rt {f : Nat → Nat} (F : SgM f) : RT fun r => r.map f := by
  refine ⟨fun r => bool_ext (has_at.trans (Iff.trans ?_ has_at.symm)), fun r => List.length_map _, fun r => bool_ext ?_, fun r => ?_⟩
  · constructor
    · rintro ⟨x, hx, e⟩
      rw [List.length_map] at hx
      rw [sg_at hx] at e
      exact ⟨x, hx, F.c2 _ e⟩
    · rintro ⟨x, hx, e⟩
      exact ⟨x, by rw [List.length_map]; exact hx, by rw [sg_at hx, e, F.c]⟩
  · have e : ∀ q : Rw, blankN q = true ↔ ∀ x, x < q.length → q.getD x 0 = 32 := fun q => by
      constructor
      · intro h x hx
        have h := of_decide_eq_true h
        rw [h, List.getD_eq_getElem?_getD, List.getElem?_replicate, if_pos hx]; rfl
      · intro h
        refine decide_eq_true (rw_ext (by rw [List.length_replicate]) fun x hx => ?_)
        rw [h x hx]
        exact (getD_of (by rw [List.getElem?_replicate, if_pos hx])).symm
    rw [e, e]
    constructor
    · intro h x hx
      have := h x (by rw [List.length_map]; exact hx)
      rw [sg_at hx] at this
      exact (F.b _).mp this
    · intro h x hx
      rw [List.length_map] at hx
      rw [sg_at hx]
      exact (F.b _).mpr (h x hx)
  · show List.replicate (r.map f).length 35 = (List.replicate r.length 35).map f
    rw [List.length_map, List.map_replicate, F.c]
theorem SgM.wide {f : Nat → Nat} (F : SgM f) (n : Nat) (r : Rw) : wideN n (r.map f) = (wideN n r).map f := by
  have near : ∀ x, nearB n (r.map f) x = nearB n r x := fun x => by
    unfold nearB
    rw [List.length_map]
    refine any_congr2 fun y hy => ?_
    rw [sg_at (List.mem_range.mp hy), F.is]
  refine rw_ext (by rw [wide_len, List.length_map, List.length_map, wide_len]) fun x hx => ?_
  rw [wide_len, List.length_map] at hx
  rw [sg_at (r := wideN n r) (by rw [wide_len]; exact hx), wide_at hx, wide_at (by rw [List.length_map]; exact hx), near, sg_at hx]
  split
  · exact F.c.symm
  · rfl
theorem SgM.evB {f : Nat → Nat} (F : SgM f) (n s c : Nat) : Vf.evB n s (f c) = Vf.evB n s c := by
  unfold Vf.evB; rw [F.is]
theorem SgM.evS {f : Nat → Nat} (F : SgM f) (n : Nat) (r : Rw) : ∀ x, x ≤ r.length → evS n (r.map f) x = Vf.evS n r x
  | 0, _ => rfl
  | x + 1, hx => by
    rw [evS_succ (by rw [List.length_map]; omega), evS_succ (show x < r.length by omega), F.evS n r x (by omega), sg_at (show x < r.length by omega)]
    unfold evStep
    rw [F.evB]
theorem SgM.even {f : Nat → Nat} (F : SgM f) (n : Nat) (r : Rw) : evenN n (r.map f) = (evenN n r).map f := by
  refine rw_ext (by rw [even_len, List.length_map, List.length_map, even_len]) fun x hx => ?_
  rw [even_len, List.length_map] at hx
  rw [sg_at (r := evenN n r) (by rw [even_len]; exact hx), even_at hx, even_at (by rw [List.length_map]; exact hx), F.evS n r x (Nat.le_of_lt hx), sg_at hx, F.evB]
  split
  · exact F.c.symm
  · rfl
/-! rows read backwards -/
theorem rev_at {r : Rw} {x : Nat} (h : x < r.length) : r.reverse.getD x 0 = r.getD (r.length - 1 - x) 0 := by
  rw [List.getD_eq_getElem?_getD, List.getElem?_reverse h, ← List.getD_eq_getElem?_getD]
theorem rev_rt : RT List.reverse := by
  refine ⟨fun r => by unfold hasC; exact decide_eq_decide.mpr List.mem_reverse, fun r => List.length_reverse, fun r => ?_, fun r => ?_⟩
  · unfold blankN
    refine decide_eq_decide.mpr ?_
    rw [List.length_reverse]
    constructor
    · intro h
      have := congrArg List.reverse h
      rw [List.reverse_reverse, List.reverse_replicate] at this
      exact this
    · intro h
      conv => lhs; rw [h]
      exact List.reverse_replicate
  · unfold wholeN; rw [List.length_reverse, List.reverse_replicate]
theorem rev_wide (n : Nat) (r : Rw) : wideN n r.reverse = (wideN n r).reverse := by
  have near : ∀ x, x < r.length → nearB n r.reverse x = nearB n r (r.length - 1 - x) := fun x hx => by
    refine bool_ext (near_iff.trans (Iff.trans ?_ near_iff.symm))
    rw [List.length_reverse]
    constructor
    · rintro ⟨y, hy, e, h1, h2⟩
      rw [rev_at hy] at e
      exact ⟨r.length - 1 - y, by omega, e, by omega, by omega⟩
    · rintro ⟨y, hy, e, h1, h2⟩
      refine ⟨r.length - 1 - y, by omega, ?_, by omega, by omega⟩
      rw [rev_at (by omega), show r.length - 1 - (r.length - 1 - y) = y by omega]
      exact e
  refine rw_ext (by rw [wide_len, List.length_reverse, List.length_reverse, wide_len]) fun x hx => ?_
  rw [wide_len, List.length_reverse] at hx
  rw [wide_at (by rw [List.length_reverse]; exact hx), near x hx, rev_at hx, rev_at (by rw [wide_len]; exact hx), wide_len, wide_at (show r.length - 1 - x < r.length by omega)]
/-! pages read backwards -/
theorem revP_at {p : Pg} {x : Nat} (h : x < p.length) : p.reverse.getD x [] = p.getD (p.length - 1 - x) [] := by
  rw [List.getD_eq_getElem?_getD, List.getElem?_reverse h, ← List.getD_eq_getElem?_getD]
theorem mk_rev {p : Pg} {k : Nat} (h : k < p.length) (hb : blankN (p.getD (p.length - 1 - k) []) = false) : mkB p.reverse k + mkB p (p.length - 1 - k) = mkL p := by
  have e1 : p.reverse.take (k + 1) = (p.drop (p.length - 1 - k)).reverse := by
    rw [List.take_reverse, show p.length - (k + 1) = p.length - 1 - k by omega]
  unfold mkB mkL
  rw [e1, List.filter_reverse, List.length_reverse, take_oneD [] (show p.length - 1 - k < p.length by omega), List.filter_append, List.filter_cons_of_neg (by rw [hb]; decide), List.filter_nil, List.append_nil]
  have e2 : p.filter blankN = (p.take (p.length - 1 - k)).filter blankN ++ (p.drop (p.length - 1 - k)).filter blankN := by rw [← List.filter_append, List.take_append_drop]
  rw [e2, List.length_append]
  omega
theorem no_blank {r : Rw} (h : hasC r = true) : blankN r = false := by
  cases z : blankN r with
  | false => rfl
  | true => rw [blank_no z] at h; cases h
theorem rev_blocks (p : Pg) : blocksN p.reverse = (blocksN p).reverse := by
  refine pg_ext (by rw [blocks_PG.len, List.length_reverse, List.length_reverse, blocks_PG.len]) fun k hk => ?_
  rw [blocks_PG.len, List.length_reverse] at hk
  have hk2 : p.length - 1 - k < p.length := by omega
  rw [(b_inv p.reverse).all.2 k (by rw [List.length_reverse]; exact hk), revP_at (by rw [blocks_PG.len]; exact hk), blocks_PG.len, (b_inv p).all.2 _ hk2]
  unfold outB
  rw [revP_at hk]
  cases hb : blankN (p.getD (p.length - 1 - k) []) with
  | true => rw [Bool.not_true, Bool.and_false, Bool.and_false]
  | false =>
    have m1 := mk_rev hk hb
    have e : hitB p.reverse (mkB p.reverse k) = hitB p (mkB p (p.length - 1 - k)) := by
      refine bool_ext ?_
      unfold hitB
      rw [List.any_eq_true, List.any_eq_true, List.length_reverse]
      constructor
      · rintro ⟨j, hj, h⟩
        have hj := List.mem_range.mp hj
        rw [Bool.and_eq_true, revP_at hj] at h
        have m2 := mk_rev hj (no_blank h.1)
        have h2 := of_decide_eq_true h.2
        refine ⟨p.length - 1 - j, List.mem_range.mpr (by omega), ?_⟩
        rw [h.1, Bool.true_and]
        exact decide_eq_true (by omega)
      · rintro ⟨j, hj, h⟩
        have hj := List.mem_range.mp hj
        rw [Bool.and_eq_true] at h
        have hj2 : p.length - 1 - j < p.length := by omega
        have ej : p.length - 1 - (p.length - 1 - j) = j := by omega
        have m2 := mk_rev hj2 (by rw [ej]; exact no_blank h.1)
        rw [ej] at m2
        have h2 := of_decide_eq_true h.2
        refine ⟨p.length - 1 - j, List.mem_range.mpr hj2, ?_⟩
        rw [revP_at hj2, ej, h.1, Bool.true_and]
        exact decide_eq_true (by omega)
    rw [e]
theorem rev_pages (p : Pg) : pagesN p.reverse = (pagesN p).reverse := by
  unfold pagesN
  rw [List.any_reverse]
  by_cases h : p.any hasC = true
  · rw [if_pos h, if_pos h, List.map_reverse]
  · rw [if_neg h, if_neg h]
def lkR (l : List Pg) : List Pg := l.map List.reverse
theorem drawN_rev {k n : Nat} (hk : k < 8) (h2 : k ≠ 2) (h6 : k ≠ 6) (l : List Pg) : drawN k n (lkR l) = lkR (drawN k n l) := by
  have go : ∀ h : Pg → Pg, (∀ p : Pg, h p.reverse = (h p).reverse) → (lkR l).map h = lkR (l.map h) := fun h e => by
    unfold lkR
    rw [List.map_map, List.map_map]
    exact List.map_congr_left fun p _ => e p
  match k, hk, h2, h6 with
  | 0, _, _, _ => exact go _ fun p => List.map_reverse
  | 1, _, _, _ => exact go _ fun p => List.map_reverse
  | 3, _, _, _ => exact go _ fun p => List.map_reverse
  | 4, _, _, _ => exact go _ rev_blocks
  | 5, _, _, _ => exact go _ rev_pages
  | 7, _, _, _ => exact go _ fun p => List.map_reverse
  | 2, _, h, _ => exact absurd rfl h
  | 6, _, _, h => exact absurd rfl h
end Vf

set_option Elab.async false
set_option linter.all false
set_option maxRecDepth 100000
set_option maxHeartbeats 4000000
namespace Vf
open PySem PySem.Spec PyProof.Rows L2 TL
/-! ### by parts: a row -/
/-- the first cover, or the length -/
def frst (r : Rw) : Nat := r.findIdx fun c => decide (c = 35)
theorem frst_le (r : Rw) : frst r ≤ r.length := List.findIdx_le_length
theorem frst_no {r : Rw} {x : Nat} (h : x < frst r) : r.getD x 0 ≠ 35 := fun e => by
  have hx : x < r.length := Nat.lt_of_lt_of_le h (frst_le r)
  have := List.not_of_lt_findIdx h
  rw [List.getD_eq_getElem?_getD, List.getElem?_eq_getElem hx] at e
  have e : r[x] = 35 := e
  rw [e] at this
  exact absurd this (by decide)
theorem frst_is {r : Rw} (h : frst r < r.length) : r.getD (frst r) 0 = 35 := by
  have := List.findIdx_getElem (xs := r) (p := fun c => decide (c = 35)) (w := h)
  rw [List.getD_eq_getElem?_getD, List.getElem?_eq_getElem h]
  exact of_decide_eq_true this
theorem frst_has {r : Rw} : hasC r = true ↔ frst r < r.length := by
  constructor
  · intro h
    obtain ⟨x, hx, e⟩ := has_at.mp h
    by_cases c : frst r < r.length
    · exact c
    · exact absurd e (frst_no (by omega))
  · intro h
    exact has_at.mpr ⟨_, h, frst_is h⟩
theorem evS_lo (n : Nat) (r : Rw) : ∀ x, x ≤ frst r → evS n r x = 0
  | 0, _ => rfl
  | x + 1, hx => by
    have hx2 : x < r.length := by have := frst_le r; omega
    rw [evS_succ hx2, evS_lo n r x (by omega)]
    unfold evStep evB
    rw [decide_eq_false (frst_no (show x < frst r by omega))]
    simp
theorem evS_mid {n : Nat} (n1 : 1 ≤ n) {r : Rw} (h : frst r < r.length) : ∀ i, i + 1 ≤ n → frst r + i + 1 ≤ r.length → evS n r (frst r + i + 1) = i + 1
  | 0, _, _ => by
    rw [Nat.add_zero, evS_succ h, evS_lo n r _ (Nat.le_refl _), frst_is h]
    unfold evStep evB
    rw [decide_eq_true rfl, Bool.true_or, if_pos rfl, if_pos (by omega)]
  | i + 1, hi, hl => by
    rw [show frst r + (i + 1) + 1 = (frst r + i + 1) + 1 by omega, evS_succ (by omega), evS_mid n1 h i (by omega) (by omega)]
    have e : evB n (i + 1) (r.getD (frst r + i + 1) 0) = true := by
      unfold evB
      rw [decide_eq_true (show 0 < i + 1 by omega), decide_eq_true (show i + 1 < n by omega)]
      simp
    unfold evStep
    rw [if_pos e, if_pos (by omega)]
theorem drop_atN {r : Rw} {a x : Nat} : (r.drop a).getD x 0 = r.getD (a + x) 0 := by
  rw [List.getD_eq_getElem?_getD, List.getElem?_drop, ← List.getD_eq_getElem?_getD]
theorem evB_n0 {n : Nat} (c : Nat) : evB n n c = evB n 0 c := by
  unfold evB
  rw [decide_eq_false (show ¬ n < n by omega), Bool.and_false]
  simp
theorem evStep_n0 {n : Nat} (n1 : 1 ≤ n) (c : Nat) : evStep n n c = evStep n 0 c := by
  unfold evStep
  rw [evB_n0]
  split
  · rw [if_neg (by omega), if_pos (by omega)]
  · rfl
theorem evS_hi {n : Nat} (n1 : 1 ≤ n) {r : Rw} (h : frst r < r.length) : ∀ j, frst r + n + j ≤ r.length → evS n r (frst r + n + j) = evS n (r.drop (frst r + n)) j ∨ (evS n r (frst r + n + j) = n ∧ evS n (r.drop (frst r + n)) j = 0)
  | 0, hl => .inr ⟨by
      have := evS_mid n1 h (n - 1) (by omega) (by omega)
      rw [show frst r + (n - 1) + 1 = frst r + n + 0 by omega, show n - 1 + 1 = n by omega] at this
      exact this, rfl⟩
  | j + 1, hl => by
    have ih := evS_hi n1 h j (by omega)
    rw [show frst r + n + (j + 1) = (frst r + n + j) + 1 by omega, evS_succ (by omega), evS_succ (show j < (r.drop (frst r + n)).length by rw [List.length_drop]; omega), drop_atN]
    rcases ih with e | ⟨e1, e2⟩
    · rw [e]; exact .inl rfl
    · rw [e1, e2, evStep_n0 n1]; exact .inl rfl
theorem evB_hi {n : Nat} (n1 : 1 ≤ n) {r : Rw} (h : frst r < r.length) {j : Nat} (hl : frst r + n + j ≤ r.length) (c : Nat) : evB n (evS n r (frst r + n + j)) c = evB n (evS n (r.drop (frst r + n)) j) c := by
  rcases evS_hi n1 h j hl with e | ⟨e1, e2⟩
  · rw [e]
  · rw [e1, e2, evB_n0]
/-- even, from the first cover on -/
theorem even_parts {n : Nat} (n1 : 1 ≤ n) {r : Rw} (h : frst r < r.length) : evenN n r = r.take (frst r) ++ (List.replicate (min n (r.length - frst r)) 35 ++ evenN n (r.drop (frst r + n))) := by
  have l1 : (r.take (frst r)).length = frst r := by rw [List.length_take]; omega
  refine rw_ext (by rw [even_len, List.length_append, List.length_append, List.length_replicate, even_len, List.length_drop, l1]; omega) fun x hx => ?_
  rw [even_len] at hx
  rw [even_at hx]
  by_cases a : x < frst r
  · rw [List.getD_eq_getElem?_getD (l := _ ++ _), List.getElem?_append_left (by rw [l1]; exact a), ← List.getD_eq_getElem?_getD, evS_lo n r x (by omega)]
    have : evB n 0 (r.getD x 0) = false := by
      unfold evB
      rw [decide_eq_false (frst_no a)]
      simp
    rw [this, if_neg Bool.false_ne_true, List.getD_eq_getElem?_getD (l := r.take _), List.getElem?_take, if_pos a, ← List.getD_eq_getElem?_getD]
  · rw [List.getD_eq_getElem?_getD (l := _ ++ _), List.getElem?_append_right (by rw [l1]; omega), l1]
    by_cases b : x < frst r + n
    · rw [List.getElem?_append_left (by rw [List.length_replicate]; omega), List.getElem?_replicate, if_pos (show x - frst r < min n (r.length - frst r) by omega)]
      have e : evB n (evS n r x) (r.getD x 0) = true := by
        by_cases z : x = frst r
        · rw [z, frst_is h]; unfold evB; rw [decide_eq_true rfl, Bool.true_or]
        · have := evS_mid n1 h (x - frst r - 1) (by omega) (by omega)
          rw [show frst r + (x - frst r - 1) + 1 = x by omega] at this
          rw [this]
          unfold evB
          rw [decide_eq_true (show 0 < x - frst r - 1 + 1 by omega), decide_eq_true (show x - frst r - 1 + 1 < n by omega)]
          simp
      rw [e, if_pos rfl]; rfl
    · rw [List.getElem?_append_right (by rw [List.length_replicate]; omega), List.length_replicate, Nat.min_eq_left (by omega), ← List.getD_eq_getElem?_getD]
      have hj : x - frst r - n < (r.drop (frst r + n)).length := by rw [List.length_drop]; omega
      have e := evB_hi n1 h (j := x - frst r - n) (by omega) (r.getD x 0)
      rw [show frst r + n + (x - frst r - n) = x by omega] at e
      rw [even_at hj, drop_atN, show frst r + n + (x - frst r - n) = x by omega, e]
/-! a page -/
theorem blkF_b (a b : Pg) {r : Rw} (h : blankN r = true) : blkF (a, b) r = (a ++ (blockN b ++ [r]), []) := if_pos h
theorem blkF_n (a b : Pg) {r : Rw} (h : ¬ blankN r = true) : blkF (a, b) r = (a, b ++ [r]) := if_neg h
theorem blkS_from (acc run : Pg) (l : Pg) : l.foldl blkF (acc, run) = (acc ++ (l.foldl blkF ([], run)).1, (l.foldl blkF ([], run)).2) := by
  induction l generalizing acc run with
  | nil => rw [List.foldl_nil, List.foldl_nil, List.append_nil]
  | cons r l ih =>
    rw [List.foldl_cons, List.foldl_cons]
    by_cases h : blankN r = true
    · rw [blkF_b _ _ h, blkF_b _ _ h, ih (acc ++ (blockN run ++ [r])) [], ih ([] ++ (blockN run ++ [r])) [], List.nil_append, List.append_assoc acc]
    · rw [blkF_n _ _ h, blkF_n _ _ h]
      exact ih acc (run ++ [r])
theorem blkS_run (a : Pg) (h : ∀ r ∈ a, blankN r = false) : blkS a = ([], a) := by
  have : ∀ (a run : Pg), (∀ r ∈ a, blankN r = false) → a.foldl blkF ([], run) = ([], run ++ a) := by
    intro a
    induction a with
    | nil => intro run _; rw [List.append_nil]; rfl
    | cons r a ih =>
      intro run h
      rw [List.foldl_cons, blkF_n _ _ (by rw [h r List.mem_cons_self]; decide), ih (run ++ [r]) fun q hq => h q (List.mem_cons_of_mem _ hq), List.append_assoc]
      rfl
  exact this a [] h
theorem block_pages (p : Pg) : blockN p = pagesN p := rfl
theorem blocks_run {a : Pg} (h : ∀ r ∈ a, blankN r = false) : blocksN a = pagesN a := by
  unfold blocksN
  rw [blkS_run a h, List.nil_append, block_pages]
theorem blocks_cut {a : Pg} {r : Rw} {l : Pg} (h : ∀ r ∈ a, blankN r = false) (hr : blankN r = true) : blocksN (a ++ r :: l) = pagesN a ++ (r :: blocksN l) := by
  have e : blkS (a ++ r :: l) = (pagesN a ++ [r] ++ (blkS l).1, (blkS l).2) := by
    unfold blkS
    rw [List.foldl_append]
    have e1 : a.foldl blkF ([], []) = ([], a) := blkS_run a h
    rw [e1, List.foldl_cons, blkF_b _ _ hr, blkS_from, List.nil_append, block_pages]
  unfold blocksN
  rw [e]
  simp
/-- the first row that is blank, or the length -/
def frstB (p : Pg) : Nat := p.findIdx blankN
theorem frstB_le (p : Pg) : frstB p ≤ p.length := List.findIdx_le_length
theorem blocks_parts (p : Pg) : blocksN p = (if 0 < frstB p then pagesN (p.take (frstB p)) else []) ++ ((p.drop (frstB p)).take 1 ++ (if frstB p + 1 < p.length then blocksN (p.drop (frstB p + 1)) else [])) := by
  have no : ∀ r ∈ p.take (frstB p), blankN r = false := fun r hr => by
    obtain ⟨i, hi, e⟩ := mem_at hr
    rw [List.length_take] at hi
    have := List.not_of_lt_findIdx (xs := p) (p := blankN) (i := i) (show i < frstB p by omega)
    rw [List.getElem?_take, if_pos (by omega)] at e
    have hl := (List.getElem?_eq_some_iff.mp e)
    rw [hl.2] at this
    exact this
  have pg0 : (if 0 < frstB p then pagesN (p.take (frstB p)) else []) = pagesN (p.take (frstB p)) := by
    by_cases c : 0 < frstB p
    · rw [if_pos c]
    · rw [if_neg c, show frstB p = 0 by omega, List.take_zero]; rfl
  rw [pg0]
  by_cases c : frstB p < p.length
  · have hb : blankN p[frstB p] = true := List.findIdx_getElem (w := c)
    have e : p = p.take (frstB p) ++ p[frstB p] :: p.drop (frstB p + 1) := by
      rw [← List.drop_eq_getElem_cons c, List.take_append_drop]
    have e2 : (p.drop (frstB p)).take 1 = [p[frstB p]] := by rw [List.drop_eq_getElem_cons c]; rfl
    rw [e2]
    conv => lhs; rw [e, blocks_cut no hb]
    congr 1
    show p[frstB p] :: _ = p[frstB p] :: _
    congr 1
    by_cases d : frstB p + 1 < p.length
    · rw [if_pos d]; rfl
    · rw [if_neg d, List.drop_eq_nil_of_le (by omega)]; rfl
  · have e : p.take (frstB p) = p := List.take_of_length_le (by omega)
    rw [e] at no ⊢
    rw [List.drop_eq_nil_of_le (by omega), if_neg (by omega), blocks_run no]
    simp
/-- below, on one page: from its first row with a cover on -/
def frstP (p : Pg) : Nat := p.findIdx hasC
theorem frstP_le (p : Pg) : frstP p ≤ p.length := List.findIdx_le_length
theorem bg_one (p : Pg) {r : Nat} (hr : r < p.length) : bgB [p] 0 r = decide (frstP p ≤ r) := by
  refine bool_ext ((bg_iff (l := [p]) (Nat.zero_lt_one)).trans ?_)
  rw [decide_eq_true_eq]
  constructor
  · rintro ⟨i, j, hi, hj, e, o⟩
    have hi : i = 0 := by have : i < 1 := hi; omega
    subst hi
    have hj : j < p.length := hj
    have e : hasC (p.getD j []) = true := e
    have o : j ≤ r := by rcases o with q | q <;> omega
    by_cases c : j < frstP p
    · have := List.not_of_lt_findIdx (xs := p) (p := hasC) (i := j) c
      rw [List.getD_eq_getElem?_getD, List.getElem?_eq_getElem hj] at e
      have e : hasC p[j] = true := e
      rw [this] at e; cases e
    · omega
  · intro h
    have c : frstP p < p.length := by omega
    refine ⟨0, frstP p, Nat.zero_lt_one, c, ?_, .inr ⟨rfl, h⟩⟩
    show hasC (p.getD (frstP p) []) = true
    rw [List.getD_eq_getElem?_getD, List.getElem?_eq_getElem c]
    exact List.findIdx_getElem (xs := p) (p := hasC) (w := c)
theorem below_one (p : Pg) : belowN [p] = [p.take (frstP p) ++ (p.map wholeN).drop (frstP p)] := by
  symm
  have le := frstP_le p
  have l1 : (p.take (frstP p)).length = frstP p := by rw [List.length_take]; omega
  have len : (p.take (frstP p) ++ (p.map wholeN).drop (frstP p)).length = p.length := by rw [List.length_append, List.length_drop, List.length_map, l1]; omega
  refine below_ext rfl (fun i hi => ?_) fun i r hi hr => ?_
  · have hi : i = 0 := by have : i < 1 := hi; omega
    subst hi
    exact len
  · have hi : i = 0 := by have : i < 1 := hi; omega
    subst hi
    have hr : r < p.length := hr
    show (p.take (frstP p) ++ (p.map wholeN).drop (frstP p)).getD r [] = (if bgB [p] 0 r = true then wholeN (p.getD r []) else p.getD r [])
    rw [bg_one p hr]
    by_cases c : frstP p ≤ r
    · rw [decide_eq_true c, if_pos rfl, List.getD_eq_getElem?_getD, List.getElem?_append_right (by omega), l1, List.getElem?_drop, show frstP p + (r - frstP p) = r by omega, ← List.getD_eq_getElem?_getD, map_at hr]
    · rw [decide_eq_false c, if_neg Bool.false_ne_true, List.getD_eq_getElem?_getD, List.getElem?_append_left (by omega), List.getElem?_take, if_pos (by omega), ← List.getD_eq_getElem?_getD]
/-! below, by parts of the look -/
theorem below_parts (l : List Pg) (k : Nat) : belowN l = belowN (l.take k) ++ (if (l.take k).any pgC = true then allN (l.drop k) else belowN (l.drop k)) := by
  symm
  have mid : ∀ p r, k ≤ p → p < l.length → r < (l.getD p []).length → bgB l p r = ((l.take k).any pgC || bgB (l.drop k) (p - k) r) := fun p r hk hp hr => by
    unfold bgB
    have e1 : l.take p = l.take k ++ (l.drop k).take (p - k) := by
      conv => lhs; rw [show p = k + (p - k) by omega, List.take_add]
    have e2 : (l.drop k).getD (p - k) [] = l.getD p [] := by
      rw [List.getD_eq_getElem?_getD, List.getElem?_drop, show k + (p - k) = p by omega, ← List.getD_eq_getElem?_getD]
    rw [e1, List.any_append, e2, Bool.or_assoc]
  have dl : ∀ x, x ≤ x := fun x => Nat.le_refl x
  have rlen : (if (l.take k).any pgC = true then allN (l.drop k) else belowN (l.drop k)).length = l.length - k := by
    split
    · rw [allN_len, List.length_drop]
    · rw [bel_len, List.length_drop]
  have dget : ∀ p, k ≤ p → (l.drop k).getD (p - k) [] = l.getD p [] := fun p hk => by
    rw [List.getD_eq_getElem?_getD, List.getElem?_drop, show k + (p - k) = p by omega, ← List.getD_eq_getElem?_getD]
  have lo : ∀ p, p < k → p < l.length → (belowN (l.take k) ++ (if (l.take k).any pgC = true then allN (l.drop k) else belowN (l.drop k))).getD p [] = (belowN l).getD p [] := fun p h1 h2 => by
    rw [List.getD_eq_getElem?_getD, List.getElem?_append_left (by rw [bel_len, List.length_take]; omega), ← List.getD_eq_getElem?_getD, below_take, take_at h1]
  have hi : ∀ p, k ≤ p → p < l.length → (belowN (l.take k) ++ (if (l.take k).any pgC = true then allN (l.drop k) else belowN (l.drop k))).getD p [] = (if (l.take k).any pgC = true then allN (l.drop k) else belowN (l.drop k)).getD (p - k) [] := fun p h1 h2 => by
    rw [List.getD_eq_getElem?_getD, List.getElem?_append_right (by rw [bel_len, List.length_take]; omega), bel_len, List.length_take, Nat.min_eq_left (by omega), ← List.getD_eq_getElem?_getD]
  refine below_ext (by rw [List.length_append, rlen, bel_len, List.length_take]; omega) (fun p hp => ?_) fun p r hp hr => ?_
  · by_cases c : p < k
    · rw [lo p c hp, bel_lens hp]
    · rw [hi p (by omega) hp]
      split
      · rw [allN_lens (by rw [List.length_drop]; omega), dget p (by omega)]
      · rw [bel_lens (by rw [List.length_drop]; omega), dget p (by omega)]
  · by_cases c : p < k
    · rw [lo p c hp, bel_at hp hr]
    · rw [hi p (by omega) hp]
      have hp2 : p - k < (l.drop k).length := by rw [List.length_drop]; omega
      have hr2 : r < ((l.drop k).getD (p - k) []).length := by rw [dget p (by omega)]; exact hr
      unfold rowBel
      rw [mid p r (by omega) hp hr]
      by_cases z : (l.take k).any pgC = true
      · rw [if_pos z, z, Bool.true_or, if_pos rfl, allN_at hp2 hr2, dget p (by omega)]
      · rw [if_neg z, Bool.eq_false_iff.mpr z, Bool.false_or, bel_at hp2 hr2]
        unfold rowBel
        rw [dget p (by omega)]
theorem drawN_flat {k n : Nat} (hk : k < 8) (h2 : k ≠ 2) (h6 : k ≠ 6) (l : List Pg) : drawN k n l = l.flatMap fun p => drawN k n [p] := by
  have go : ∀ h : Pg → Pg, l.map h = l.flatMap fun p => [h p] := fun h => by
    induction l with
    | nil => rfl
    | cons p l ih => rw [List.map_cons, List.flatMap_cons, ih]; rfl
  match k, hk, h2, h6 with
  | 0, _, _, _ => exact go _
  | 1, _, _, _ => exact go _
  | 3, _, _, _ => exact go _
  | 4, _, _, _ => exact go _
  | 5, _, _, _ => exact go _
  | 7, _, _, _ => exact go _
  | 2, _, h, _ => exact absurd rfl h
  | 6, _, _, h => exact absurd rfl h
end Vf

set_option Elab.async false
set_option linter.all false
set_option maxRecDepth 100000
set_option maxHeartbeats 4000000
namespace Vf
open PySem PySem.Spec PyProof.Rows L2 TL
theorem PG.ok {h : Pg → Pg} (G : PG h) {p : Pg} (ok : PgOk p) : PgOk (h p) := by
  refine ⟨by rw [G.len]; exact ok.1, fun r hr => ?_⟩
  obtain ⟨k, hk, e⟩ := mem_at hr
  rw [G.len] at hk
  rw [← getD_of (d := []) e, G.lens p k hk]
  exact ok.2 _ (getD_mem hk)
theorem drawN_ok {k n : Nat} {l : List Pg} (hk : k < 8) (ok : LkOk l) : LkOk (drawN k n l) := by
  have map_ok : ∀ h : Pg → Pg, (∀ p, PgOk p → PgOk (h p)) → LkOk (l.map h) := fun h hh => ⟨by rw [List.length_map]; exact ok.1, fun p hp => by
    obtain ⟨q, hq, rfl⟩ := List.mem_map.mp hp
    exact hh q (ok.2 q hq)⟩
  match k, hk with
  | 0, _ => exact map_ok _ fun p => (wide_RG n).pg.ok
  | 1, _ => exact map_ok _ fun p => (even_RG n).pg.ok
  | 2, _ => exact ⟨by show (l.take n).length ≤ _; rw [List.length_take]; exact Nat.le_trans (Nat.min_le_right _ _) ok.1, fun p hp => ok.2 p (List.mem_of_mem_take hp)⟩
  | 3, _ => exact map_ok _ fun p => rows_RG.pg.ok
  | 4, _ => exact map_ok _ fun p => blocks_PG.ok
  | 5, _ => exact map_ok _ fun p => pages_PG.ok
  | 6, _ =>
    refine ⟨by show (belowN l).length ≤ _; rw [bel_len]; exact ok.1, fun p hp => ?_⟩
    obtain ⟨i, hi, e⟩ := mem_at (show p ∈ belowN l from hp)
    rw [bel_len] at hi
    have e : (belowN l).getD i [] = p := getD_of e
    have oki := ok.2 _ (getD_mem (d := []) hi)
    rw [← e]
    refine ⟨by rw [bel_lens hi]; exact oki.1, fun r hr => ?_⟩
    obtain ⟨j, hj, e2⟩ := mem_at hr
    rw [bel_lens hi] at hj
    rw [← getD_of (d := []) e2, bel_at hi hj]
    unfold rowBel
    have := oki.2 _ (getD_mem (d := []) hj)
    split
    · rw [whole_len]; exact this
    · exact this
  | 7, _ => exact map_ok _ fun p okp => ⟨by rw [List.length_map]; exact okp.1, fun r hr => by
      obtain ⟨q, hq, rfl⟩ := List.mem_map.mp hr
      rw [whole_len]; exact okp.2 q hq⟩
/-- the kind F is swallowed by the kind C -/
def finer : Nat → List Nat
  | 3 => [0, 1]
  | 4 => [0, 1, 3]
  | 5 => [0, 1, 3, 4]
  | 6 => [0, 1, 3]
  | 7 => [0, 1, 3, 4, 5, 6]
  | _ => []
theorem mm {h g : Pg → Pg} (e : ∀ p, h (g p) = h p) (l : List Pg) : (l.map g).map h = l.map h := by
  rw [List.map_map]; exact List.map_congr_left fun p _ => e p
theorem mm2 {h g : Pg → Pg} (e : ∀ p, h (g p) = g p) (l : List Pg) : (l.map g).map h = l.map g := by
  rw [List.map_map]; exact List.map_congr_left fun p _ => e p
theorem RG.rowsP1 {g : Rw → Rw} (G : RG g) (p : Pg) : (p.map g).map rowsN = p.map rowsN := by
  rw [List.map_map]; exact List.map_congr_left fun r _ => G.rows1 r
theorem RG.rowsP2 {g : Rw → Rw} (G : RG g) (p : Pg) : (p.map rowsN).map g = p.map rowsN := by
  rw [List.map_map]; exact List.map_congr_left fun r _ => G.rows2 r
/-- a kind that works row by row -/
def rowG (F n : Nat) : Rw → Rw := match F with | 0 => wideN n | 1 => evenN n | _ => rowsN
theorem rowG_RG (F n : Nat) : RG (rowG F n) := by
  unfold rowG
  split
  · exact wide_RG n
  · exact even_RG n
  · exact rows_RG
theorem rowG_draw {F n : Nat} (h : F = 0 ∨ F = 1 ∨ F = 3) (l : List Pg) : drawN F n l = l.map fun p => p.map (rowG F n) := by
  rcases h with rfl | rfl | rfl <;> rfl
theorem swallow_row {C m F n : Nat} (hC : C = 3 ∨ C = 4 ∨ C = 5 ∨ C = 6 ∨ C = 7) (hF : F = 0 ∨ F = 1 ∨ F = 3) (l : List Pg) : drawN C m (drawN F n l) = drawN C m l ∧ drawN F n (drawN C m l) = drawN C m l := by
  have G := rowG_RG F n
  rw [rowG_draw hF, rowG_draw hF]
  rcases hC with rfl | rfl | rfl | rfl | rfl
  · exact ⟨mm G.rowsP1 l, mm2 G.rowsP2 l⟩
  · exact ⟨mm G.blocks1 l, mm2 G.blocks2 l⟩
  · exact ⟨mm G.pg.pages1 l, mm2 G.pg.pages2 l⟩
  · exact ⟨G.below1 l, G.below2 l⟩
  · exact ⟨mm G.pg.all1 l, mm2 G.pg.whole l⟩
theorem swallow {C m F n : Nat} (hF : F ∈ finer C) (l : List Pg) : drawN C m (drawN F n l) = drawN C m l ∧ drawN F n (drawN C m l) = drawN C m l := by
  match C, hF with
  | 3, h =>
    simp only [finer, List.mem_cons, List.not_mem_nil, or_false] at h
    exact swallow_row (.inl rfl) (by omega) l
  | 4, h =>
    simp only [finer, List.mem_cons, List.not_mem_nil, or_false] at h
    exact swallow_row (.inr (.inl rfl)) (by omega) l
  | 5, h =>
    simp only [finer, List.mem_cons, List.not_mem_nil, or_false] at h
    rcases h with rfl | rfl | rfl | rfl
    · exact swallow_row (.inr (.inr (.inl rfl))) (by omega) l
    · exact swallow_row (.inr (.inr (.inl rfl))) (by omega) l
    · exact swallow_row (.inr (.inr (.inl rfl))) (by omega) l
    · exact ⟨mm blocks_PG.pages1 l, mm2 blocks_PG.pages2 l⟩
  | 6, h =>
    simp only [finer, List.mem_cons, List.not_mem_nil, or_false] at h
    exact swallow_row (.inr (.inr (.inr (.inl rfl)))) (by omega) l
  | 7, h =>
    simp only [finer, List.mem_cons, List.not_mem_nil, or_false] at h
    rcases h with rfl | rfl | rfl | rfl | rfl | rfl
    · exact swallow_row (.inr (.inr (.inr (.inr rfl)))) (by omega) l
    · exact swallow_row (.inr (.inr (.inr (.inr rfl)))) (by omega) l
    · exact swallow_row (.inr (.inr (.inr (.inr rfl)))) (by omega) l
    · exact ⟨mm blocks_PG.all1 l, mm2 blocks_PG.whole l⟩
    · exact ⟨mm pages_PG.all1 l, mm2 pages_PG.whole l⟩
    · exact ⟨all_below l, below_all l⟩
  | 0, h => cases h
  | 1, h => cases h
  | 2, h => cases h
  | n + 8, h => cases h
theorem draw_again {C m : Nat} (hC : C = 1 ∨ C = 3 ∨ C = 4 ∨ C = 5 ∨ C = 6 ∨ C = 7) (l : List Pg) : drawN C m (drawN C m l) = drawN C m l := by
  rcases hC with rfl | rfl | rfl | rfl | rfl | rfl
  · refine mm2 (h := fun p => p.map (evenN m)) (g := fun p => p.map (evenN m)) (fun p => ?_) l
    rw [List.map_map]; exact List.map_congr_left fun r _ => even_even m r
  · exact mm2 (fun p => rows_RG.rowsP2 p) l
  · exact mm2 blocks_blocks l
  · exact mm2 pages_PG.pages2 l
  · exact below_below l
  · exact mm2 all_all l
theorem draw_wide (m n : Nat) (l : List Pg) : drawN 0 m (drawN 0 n l) = drawN 0 (m + n) l := by
  show (l.map fun p => p.map (wideN n)).map (fun p => p.map (wideN m)) = l.map fun p => p.map (wideN (m + n))
  rw [List.map_map]
  refine List.map_congr_left fun p _ => ?_
  show (p.map (wideN n)).map (wideN m) = _
  rw [List.map_map]
  exact List.map_congr_left fun r _ => wide_wide m n r
end Vf

set_option Elab.async false
set_option linter.all false
set_option maxRecDepth 100000
set_option maxHeartbeats 4000000
namespace Vf
open PySem PySem.Spec PyProof.Rows L2 TL
theorem cutT {zs : List Nat} {j : Nat} : cutS (mkS zs) none (some (j : Int)) = mkS (zs.take j) := by
  unfold cutS
  rw [HT.sIx_nat, HT.sIx_none, mkS_len]
  show mkS ((zs.drop 0).take (min j zs.length - 0)) = _
  rw [List.drop_zero, Nat.sub_zero]
  by_cases c : j ≤ zs.length
  · rw [Nat.min_eq_left c]
  · rw [Nat.min_eq_right (by omega), List.take_of_length_le (Nat.le_refl _), List.take_of_length_le (by omega)]
theorem in_sgs {v : V} {zs : List Nat} (h : v ∈ zs.map fun c => sV [c]) : ∃ c, v = sV [c] ∧ c ∈ zs := by
  obtain ⟨c, hc, rfl⟩ := List.mem_map.mp h
  exact ⟨c, rfl, hc⟩
theorem str_mk (x : Str) : V.str x = sV x.cps.toList := by
  show V.str x = V.str ⟨x.cps.toList.toArray⟩
  rw [Array.toArray_toList]
theorem pick3 {a b c : Nat} {k : Nat} (h : k < 3) : ∃ m : Nat, ([V.int ((a : Nat) : Int), V.int ((b : Nat) : Int), V.int ((c : Nat) : Int)] : List V)[k]? = some (V.int ((m : Nat) : Int)) ∧ (m = a ∨ m = b ∨ m = c) := by
  match k, h with
  | 0, _ => exact ⟨a, rfl, .inl rfl⟩
  | 1, _ => exact ⟨b, rfl, .inr (.inl rfl)⟩
  | 2, _ => exact ⟨c, rfl, .inr (.inr rfl)⟩
theorem add1 (n : Nat) : V.int (1 + (n : Int)) = nV (n + 1) := by
  unfold nV
  exact congrArg V.int (by omega)
theorem walk_rangeN {n : Nat} : Walk (Itr 0 n) n (fun _ => True) (YFn nV) :=
  walk_range.mono (fun _ h => h) fun i H x H' hi _ y => ⟨y.1, y.2.trans (int0 i)⟩
section
variable {P : Program} {w : World} {K : PySem.W.Frag} {mg : Str → Option Value} {base : Heap}
def ownS : Str := "!$&'()*+,-./0123456789:;<=>?@ABCDEFGHIJKLMNOPQRSTUVWXYZ[\\]^_`abcdefghijklmnopqrstuvwxyz{|}~"
def spOwn : Sp := fun vs H Q _ => vs = [] ∧ Q (.str ownS) H
theorem ok_own (T : Txt K mg) : FnOk P w K mg base CX0 1 T.a_law_own_signs T.d_law_own_signs [] spOwn := by
  refine T.D_law_own_signs.F.ok sc_law_own_signs (fun vs H Q E h => ?_) (fun cdv A outer s H vs Q E hr h => ?_)
  · obtain ⟨rfl, _⟩ := h
    rfl
  · obtain ⟨rfl, q⟩ := h
    exact ⟨_, (pss_one (ps_ret pe_str)), q⟩
def spRowA : Sp := fun vs H Q _ => ∃ (d l : Addr) (n : Nat), vs = [.ref d, nV n] ∧ DI d l H ∧ 1 ≤ n ∧ n ≤ 200 ∧ ∀ H' zs, Kp d H H' → DI d l H' → zs.length ≤ n → Q (sV zs) H'
theorem ok_rowA (T : Txt K mg) : FnOk P w K mg base CX0 4 T.a_law_own_row T.d_law_own_row ["_law_d", "_law_wide"] spRowA := by
  have G_law_draw : FnOk P w K mg base CX0 1 T.a_law_draw T.d_law_draw ["_law_d", "_law_many"] spDraw := ok_draw T
  have G_law_pick : FnOk P w K mg base CX0 2 T.a_law_pick T.d_law_pick ["_law_d", "_law_row"] (spPick K) := ok_pick T
  have G_law_own_signs : FnOk P w K mg base CX0 1 T.a_law_own_signs T.d_law_own_signs [] spOwn := ok_own T
  refine T.D_law_own_row.F.ok sc_law_own_row (fun vs H Q E h => ?_) (fun cdv A outer s H vs Q E hr h => ?_)
  · obtain ⟨d, l, n, rfl, _⟩ := h
    rfl
  · obtain ⟨d, l, n, rfl, hD, hn1, hn, q⟩ := h
    refine ⟨_, (pss_cons (ps_set (i := 2) sc_law_own_row.nd rfl (.inl rfl) (pe_call G_law_draw (hr.mono (by decide)) (by rfl) T.D_law_draw.G T.D_law_draw.F.kp T.D_law_draw.B .nil pass0 (pa_cons (pv 0) (pa_cons pe_int pa_nil))))
      (pss_cons (ps_if (pt_cmpR op_eq (pv 2) pe_int (nomark _)) (pss_one (ps_ret (pe_op op_mul_str pe_str (pv 1)))) pss_nil)
      (pss_cons (ps_if (pt_cmpR op_eq (pv 2) pe_int (nomark _)) (pss_one (ps_ret (pe_join pe_str (pe_lc (own := [("_law_k", 4)]) (g := gName 4) (tt := tYes) rfl sc_law_own_row.nd (pi_range1 (by rfl) T.n_range (pa_cons (pv 1) pa_nil)) (blkOk_by (own := [("_law_k", 4)]) (N := ["_law_d", "_law_wide", "_law_kind", "_law_cells", "_law_k"]) (sc := (defScope s_law_own_row)) (by decide +kernel)) (fun _ _ _ _ _ => (pg_name (i := 4) sc_law_own_row.nd rfl (.inl rfl))) (fun _ _ _ _ _ => pts_nil) (fun _ _ _ _ _ => (pe_call G_law_pick (hr.mono (by decide)) (by rfl) T.D_law_pick.G T.D_law_pick.F.kp T.D_law_pick.B .nil pass0 (pa_cons (pv 0) (pa_cons (pe_call0 G_law_own_signs (hr.mono (by decide)) (by rfl) T.D_law_own_signs.G T.D_law_own_signs.F.kp T.D_law_own_signs.B .nil pass0) pa_nil)))))))) pss_nil)
      (pss_cons (ps_set (i := 3) sc_law_own_row.nd rfl (.inl rfl) pe_str)
      (pss_cons (ps_while PassesOwn.never (pt_cmpR op_lt (pe_callB call_len_str (by rfl) T.n_len PySem.boot_len (pa_cons (pv 3) pa_nil)) (pv 1) (nomark _)) (pss_one (ps_set (i := 3) sc_law_own_row.nd rfl (.inl rfl) (pe_op op_add_str (pv 3) (pe_op op_mul_str (pe_call G_law_pick (hr.mono (by decide)) (by rfl) T.D_law_pick.G T.D_law_pick.F.kp T.D_law_pick.B .nil pass0 (pa_cons (pv 0) (pa_cons pe_str pa_nil))) (pe_op op_add pe_int (pe_call G_law_draw (hr.mono (by decide)) (by rfl) T.D_law_draw.G T.D_law_draw.F.kp T.D_law_draw.B .nil pass0 (pa_cons (pv 0) (pa_cons pe_int pa_nil)))))))))
      (pss_one (ps_ret (pe_slice sl_str (pv 3) po_none (po_some (pv 1)))))))))), ?_⟩
    refine ⟨_, rfl, d, l, 5, rfl, hD, by decide, fun H1 r k1 D1 a1 a2 => ?_⟩
    obtain ⟨kd, rfl, hkd⟩ := draw_nt (by decide) a1 a2
    have mok : ∀ (z : Str) (m : Nat), z.length ≤ 10000 → m ≤ 1000 → MulOk z ((m : Nat) : Int) := fun z m h1 h2 => mul_okN h2 h1
    refine ⟨_, rfl, rfl, _, rfl, ?_⟩
    by_cases c0 : kd = 0
    · rw [show decide (V.int ((kd : Nat) : Int) = V.int 0) = true from by rw [c0]; rfl]
      refine ⟨_, rfl, _, _, rfl, rfl, mok _ _ (by decide) (by omega), ?_⟩
      rw [blank_mk, mul_sign]
      exact q _ _ k1 D1 (by rw [List.length_replicate]; exact Nat.le_refl _)
    rw [show decide (V.int ((kd : Nat) : Int) = V.int 0) = false from decide_eq_false fun z => c0 (by have := V.int.inj z; omega)]
    refine ⟨_, rfl, rfl, _, rfl, ?_⟩
    by_cases c1 : kd = 1
    · rw [show decide (V.int ((kd : Nat) : Int) = V.int 1) = true from by rw [c1]; rfl]
      refine ⟨⟨_, rfl⟩, _, rfl, (n : Int), rfl, by omega, by omega, ?_⟩
      rw [toNat_k]
      refine fun D nD => ?_
      refine lc_it walk_rangeN (PvS (fun z => z.length = 1) d l H1 D) (PvS.start D1 nD) (fun _ _ _ _ => trivial) ?_ ?_
      · rintro i x H2 H3 hi pv ⟨rfl, rfl⟩
        refine ⟨rfl, _, rfl, rfl, d, l, _, _, rfl, pv.dice, .inr ⟨_, str_mk _, rfl⟩, by decide +kernel, by decide +kernel, fun H4 v k4 D4 hv => ?_⟩
        obtain ⟨c, rfl, _⟩ := in_sgs hv
        exact pv.step D1 nD (by omega) k4 D4 rfl
      · rintro H2 ⟨zss, hl, hR, k2, D2, e2⟩
        refine ⟨_, D, zss.map mkS, rfl, rfl, .inl (SqL.of (by rw [e2, map_sV])), ?_, ?_⟩
        · rw [sum_len, flat_one hR, show (("" : Str)).length = 0 from by rw [empty_mk, mkS_len]; rfl]; exact big_ok (by omega)
        rw [join_mk]
        exact q _ _ (k1.trans k2) D2 (by rw [flat_one hR, hl]; exact Nat.le_refl _)
    rw [show decide (V.int ((kd : Nat) : Int) = V.int 1) = false from decide_eq_false fun z => c1 (by have := V.int.inj z; omega)]
    refine ⟨fun m σ H' => ∃ zs : List Nat, m = n + 3 - zs.length ∧ zs.length ≤ n + 2 ∧ σ = [some (.ref d), some (nV n), some (nV kd), some (sV zs), none] ∧ Kp d H H' ∧ DI d l H',
      ⟨_, [], rfl, Nat.zero_le _, by rw [show (sV [] : V) = V.str ("" : Str) from by rw [empty_mk]; rfl]; rfl, k1, D1⟩, fun m σ H' hW => ?_⟩
    obtain ⟨zs, rfl, hz, rfl, kk, DD⟩ := hW
    have sz : (mkS zs).length ≤ sizeLine := by rw [mkS_len]; exact big_ok (by omega)
    refine ⟨_, rfl, mkS zs, rfl, sz, _, rfl, _, _, rfl, rfl, _, rfl, ?_⟩
    by_cases cl : zs.length < n
    · rw [show decide ((((mkS zs).length : Nat) : Int) < ((n : Nat) : Int)) = true from decide_eq_true (by rw [mkS_len]; omega)]
      refine ⟨fun σ' H1 => ∃ zs2 : List Nat, zs.length < zs2.length ∧ zs2.length ≤ n + 2 ∧ σ' = [some (.ref d), some (nV n), some (nV kd), some (sV zs2), none] ∧ Kp d H H1 ∧ DI d l H1, fun σ' H1 hN => ?_, ?_⟩
      · obtain ⟨zs2, l1, l2, rfl, a1, a2⟩ := hN
        exact ⟨n + 3 - zs2.length, by omega, zs2, rfl, l2, rfl, a1, a2⟩
      · refine ⟨_, rfl, _, rfl, ?_⟩
        refine ⟨d, l, _, _, rfl, DD, .inr ⟨_, str_mk _, rfl⟩, by decide, by decide, fun H4 v k4 D4 hv => ?_⟩
        have k34 := kk.trans k4
        obtain ⟨c, rfl, _⟩ := in_sgs hv
        refine ⟨_, rfl, d, l, 3, rfl, D4, by decide, fun H5 r5 k5 D5 b1 b2 => ?_⟩
        obtain ⟨m, rfl, hm⟩ := draw_nt (by decide) b1 b2
        have e : (1 : Int) + ((m : Nat) : Int) = ((1 + m : Nat) : Int) := by omega
        refine ⟨_, _, rfl, rfl, mkS [c], ((1 + m : Nat) : Int), rfl, by rw [← e], mok _ _ (by rw [mkS_len]; show 1 ≤ _; omega) (by omega), _, _, rfl, rfl, ?_, ?_⟩
        · rw [mul_sign, mkS_len, mkS_len, List.length_replicate]; exact big_ok (by omega)
        · rw [mul_sign, mkS_app]
          exact ⟨zs ++ List.replicate (1 + m) c, by rw [List.length_append, List.length_replicate]; omega, by rw [List.length_append, List.length_replicate]; omega, rfl, k34.trans k5, D5⟩
    · rw [show decide ((((mkS zs).length : Nat) : Int) < ((n : Nat) : Int)) = false from decide_eq_false (by rw [mkS_len]; omega)]
      refine ⟨_, rfl, _, rfl, _, rfl, mkS zs, rfl, sz, ?_⟩
      rw [cutT]
      exact q _ _ kk DD (by rw [List.length_take]; exact Nat.min_le_left _ _)
def spLookA : Sp := fun vs H Q _ => ∃ (d l : Addr), vs = [.ref d] ∧ DI d l H ∧ ∀ H' v lk, Kp d H H' → DI d l H' → LkR H' v lk → LkOk lk → Q v H'
theorem ok_lookA (T : Txt K mg) : FnOk P w K mg base CX0 5 T.a_law_own_look T.d_law_own_look ["_law_d"] spLookA := by
  have G_law_draw : FnOk P w K mg base CX0 1 T.a_law_draw T.d_law_draw ["_law_d", "_law_many"] spDraw := ok_draw T
  have G_law_pick : FnOk P w K mg base CX0 2 T.a_law_pick T.d_law_pick ["_law_d", "_law_row"] (spPick K) := ok_pick T
  have G_law_rare : FnOk P w K mg base CX0 2 T.a_law_rare T.d_law_rare ["_law_d", "_law_many"] spRare := ok_rare T
  have G_law_own_row : FnOk P w K mg base CX0 4 T.a_law_own_row T.d_law_own_row ["_law_d", "_law_wide"] spRowA := ok_rowA T
  refine T.D_law_own_look.F.ok sc_law_own_look (fun vs H Q E h => ?_) (fun cdv A outer s H vs Q E hr h => ?_)
  · obtain ⟨d, l, rfl, _⟩ := h
    rfl
  · obtain ⟨d, l, rfl, hD, q⟩ := h
    refine ⟨_, (pss_cons (ps_set (i := 1) sc_law_own_look.nd rfl (.inl rfl) (pe_call G_law_pick (hr.mono (by decide)) (by rfl) T.D_law_pick.G T.D_law_pick.F.kp T.D_law_pick.B .nil pass0 (pa_cons (pv 0) (pa_cons (pe_lst (pa_cons pe_int (pa_cons pe_int (pa_cons pe_int (pa_cons pe_int (pa_cons pe_int (pa_cons pe_int pa_nil))))))) pa_nil))))
      (pss_cons (ps_set (i := 2) sc_law_own_look.nd rfl (.inr rfl) (pe_op op_add pe_int (pe_call G_law_draw (hr.mono (by decide)) (by rfl) T.D_law_draw.G T.D_law_draw.F.kp T.D_law_draw.B .nil pass0 (pa_cons (pv 0) (pa_cons pe_int pa_nil)))))
      (pss_cons (ps_set (i := 3) sc_law_own_look.nd rfl (.inr rfl) (pe_op op_add pe_int (pe_call G_law_draw (hr.mono (by decide)) (by rfl) T.D_law_draw.G T.D_law_draw.F.kp T.D_law_draw.B .nil pass0 (pa_cons (pv 0) (pa_cons pe_int pa_nil)))))
      (Evl.pss_cut (ps_if (pt_val (pe_call G_law_rare (hr.mono (by decide)) (by rfl) T.D_law_rare.G T.D_law_rare.F.kp T.D_law_rare.B .nil pass0 (pa_cons (pv 0) (pa_cons pe_int pa_nil)))) (pss_cons (ps_set (i := 4) sc_law_own_look.nd rfl (.inl rfl) (pe_call G_law_draw (hr.mono (by decide)) (by rfl) T.D_law_draw.G T.D_law_draw.F.kp T.D_law_draw.B .nil pass0 (pa_cons (pv 0) (pa_cons pe_int pa_nil))))
      (pss_cons (ps_set (i := 1) sc_law_own_look.nd rfl (.inl rfl) (pe_op op_add pe_int (pe_call G_law_draw (hr.mono (by decide)) (by rfl) T.D_law_draw.G T.D_law_draw.F.kp T.D_law_draw.B .nil pass0 (pa_cons (pv 0) (pa_cons (pe_ix ix_list (pe_lst (pa_cons pe_int (pa_cons pe_int (pa_cons pe_int pa_nil)))) (pv 4) (fun _ _ => rfl)) pa_nil)))))
      (pss_cons (ps_set (i := 2) sc_law_own_look.nd rfl (.inr rfl) (pe_op op_add pe_int (pe_call G_law_draw (hr.mono (by decide)) (by rfl) T.D_law_draw.G T.D_law_draw.F.kp T.D_law_draw.B .nil pass0 (pa_cons (pv 0) (pa_cons (pe_ix ix_list (pe_lst (pa_cons pe_int (pa_cons pe_int (pa_cons pe_int pa_nil)))) (pv 4) (fun _ _ => rfl)) pa_nil)))))
      (pss_one (ps_set (i := 3) sc_law_own_look.nd rfl (.inr rfl) (pe_op op_add pe_int (pe_call G_law_draw (hr.mono (by decide)) (by rfl) T.D_law_draw.G T.D_law_draw.F.kp T.D_law_draw.B .nil pass0 (pa_cons (pv 0) (pa_cons (pe_ix ix_list (pe_lst (pa_cons pe_int (pa_cons pe_int (pa_cons pe_int pa_nil)))) (pv 4) (fun _ _ => rfl)) pa_nil))))))))) pss_nil)
      (pss_one (ps_ret (pe_callTy call_tuple_of (by rfl) T.n_tuple (by decide +kernel) (pa_cons (pe_lc (own := [("_law_p", 5)]) (g := gName 5) (tt := tYes) rfl sc_law_own_look.nd (pi_range1 (by rfl) T.n_range (pa_cons (pv 1) pa_nil)) (blkOk_by (own := [("_law_p", 5)]) (N := ["_law_d", "_law_many", "_law_high", "_law_wide", "_law_kind", "_law_p", "_law_r"]) (sc := (defScope s_law_own_look)) (by decide +kernel)) (fun _ _ _ _ _ => (pg_name (i := 5) sc_law_own_look.nd rfl (.inl rfl))) (fun _ _ _ _ _ => pts_nil) (fun _ _ _ _ _ => (pe_callTy (T := "tuple") (r := rTupleOf K) call_tuple_of (by rfl) T.n_tuple (by decide +kernel) (pa_cons (pe_lc (own := [("_law_r", 6)]) (g := gName 6) (tt := tYes) rfl sc_law_own_look.nd (pi_range1 (by rfl) T.n_range (pa_cons (pv 2) pa_nil)) (blkOk_by (own := [("_law_r", 6)]) (N := ["_law_d", "_law_many", "_law_high", "_law_wide", "_law_kind", "_law_p", "_law_r"]) (sc := (rel2 _ (defScope s_law_own_look))) (by decide +kernel)) (fun _ _ _ _ _ => (pg_name (i := 6) sc_law_own_look.nd rfl (.inl rfl))) (fun _ _ _ _ _ => pts_nil) (fun _ _ _ _ _ => (pe_call G_law_own_row (hr.mono (by decide)) (by rfl) T.D_law_own_row.G T.D_law_own_row.F.kp T.D_law_own_row.B .nil pass0 (pa_cons (pv 0) (pa_cons (pv 3) pa_nil))))) pa_nil)))) pa_nil)))))))), ?_⟩
    refine ⟨_, rfl, by decide, fun M nM => ?_⟩
    refine ⟨d, l, _, _, rfl, hD.new nM, .inl ⟨M, rfl, (hD.nd nM).1, SqL.of upd_same⟩, by decide, by decide, fun H1 v k1 D1 hv => ?_⟩
    have k1 := ((Kp.refl d H).new nM).trans k1
    obtain ⟨m, rfl, hm⟩ : ∃ m : Nat, v = nV m ∧ m ≤ 3 := by
      simp only [List.mem_cons, List.not_mem_nil, or_false] at hv
      rcases hv with rfl | rfl | rfl | rfl | rfl | rfl
      · exact ⟨0, rfl, by decide⟩
      · exact ⟨1, rfl, by decide⟩
      · exact ⟨1, rfl, by decide⟩
      · exact ⟨2, rfl, by decide⟩
      · exact ⟨2, rfl, by decide⟩
      · exact ⟨3, rfl, by decide⟩
    refine ⟨_, rfl, d, l, 4, rfl, D1, by decide, fun H2 r2 k2 D2 a1 a2 => ?_⟩
    obtain ⟨hg, rfl, hhg⟩ := draw_nt (by decide) a1 a2
    refine ⟨_, _, rfl, rfl, ?_⟩
    refine ⟨_, rfl, d, l, 12, rfl, D2, by decide, fun H3 r3 k3 D3 b1 b2 => ?_⟩
    obtain ⟨wd, rfl, hwd⟩ := draw_nt (by decide) b1 b2
    refine ⟨_, _, rfl, rfl, ?_⟩
    have k13 := (k1.trans k2).trans k3
    refine ⟨fun σ' H' => ∃ (m hg wd : Nat) (x4 : Option V), σ' = [some (.ref d), some (nV m), some (nV hg), some (nV wd), x4, none, none] ∧ m ≤ 25 ∧ hg ≤ 200 ∧ 1 ≤ wd ∧ wd ≤ 200 ∧ Kp d H H' ∧ DI d l H', ?_, ?_⟩
    · refine ⟨_, rfl, d, l, 16, rfl, D3, by decide, fun H4 b k4 D4 => ⟨_, rfl, ?_⟩⟩
      have k14 := k13.trans k4
      cases b with
      | false => exact ⟨m, hg + 1, wd + 1, none, by show [some (V.ref d), some (nV m), some (V.int (1 + (hg : Int))), some (V.int (1 + (wd : Int))), none, none, none] = _; rw [add1, add1], by omega, by omega, by omega, by omega, k14, D4⟩
      | true =>
        refine ⟨_, rfl, d, l, 3, rfl, D4, by decide, fun H5 r5 k5 D5 c1 c2 => ?_⟩
        obtain ⟨kd, rfl, hkd⟩ := draw_nt (by decide) c1 c2
        have k15 := k14.trans k5
        obtain ⟨m1, e1, o1⟩ := pick3 (a := 2) (b := 2) (c := 24) (k := kd) (by omega)
        obtain ⟨m2, e2, o2⟩ := pick3 (a := 3) (b := 60) (c := 2) (k := kd) (by omega)
        obtain ⟨m3, e3, o3⟩ := pick3 (a := 90) (b := 3) (c := 4) (k := kd) (by omega)
        refine ⟨_, rfl, by decide, fun N1 nN1 => ⟨_, rfl, N1, _, ((kd : Nat) : Int), _, rfl, rfl, SqL.of upd_same, atI_nat e1, d, l, _, rfl, D5.new nN1, by omega, fun H6 r6 k6 D6 f1 f2 => ?_⟩⟩
        obtain ⟨g1, rfl, hg1⟩ := draw_nt (by omega) f1 f2
        have k16 := (k15.new (o := _) nN1).trans k6
        refine ⟨_, _, rfl, rfl, ?_⟩
        refine ⟨_, rfl, by decide, fun N2 nN2 => ⟨_, rfl, N2, _, ((kd : Nat) : Int), _, rfl, rfl, SqL.of upd_same, atI_nat e2, d, l, _, rfl, D6.new nN2, by omega, fun H7 r7 k7 D7 f1 f2 => ?_⟩⟩
        obtain ⟨g2, rfl, hg2⟩ := draw_nt (by omega) f1 f2
        have k17 := (k16.new (o := _) nN2).trans k7
        refine ⟨_, _, rfl, rfl, ?_⟩
        refine ⟨_, rfl, by decide, fun N3 nN3 => ⟨_, rfl, N3, _, ((kd : Nat) : Int), _, rfl, rfl, SqL.of upd_same, atI_nat e3, d, l, _, rfl, D7.new nN3, by omega, fun H8 r8 k8 D8 f1 f2 => ?_⟩⟩
        obtain ⟨g3, rfl, hg3⟩ := draw_nt (by omega) f1 f2
        have k18 := (k17.new (o := _) nN3).trans k8
        refine ⟨_, _, rfl, rfl, ?_⟩
        exact ⟨g1 + 1, g2 + 1, g3 + 1, some (nV kd), by show [some (V.ref d), some (V.int (1 + (g1 : Int))), some (V.int (1 + (g2 : Int))), some (V.int (1 + (g3 : Int))), some (nV kd), none, none] = _; rw [add1, add1, add1], by omega, by omega, by omega, by omega, k18, D8⟩
    · rintro σ1 H4 ⟨m, hg, wd, x4, rfl, hm, hhg, hw1, hw2, k4, D4⟩
      refine ⟨_, rfl, (m : Int), rfl, by omega, by omega, ?_⟩
      rw [toNat_k]
      refine fun D nD => ?_
      have ndD := D4.nd nD
      refine lc_it walk_rangeN (fun i H' => ∃ (us : List V) (xs : List Pg), H' D = some (.lst us) ∧ LV (PgR H') us xs ∧ xs.length = i ∧ (∀ x ∈ xs, PgOk x) ∧ Kp d H4 H' ∧ DI d l H') ⟨[], [], upd_same, LV.nil, rfl, (fun _ h => nomatch h), (Kp.refl d H4).new nD, D4.new nD⟩ (fun _ _ _ _ => trivial) ?_ ?_
      · rintro i x H5 H6 hi ⟨us, xs, eD, lv, lx, hx2, k6, D6⟩ ⟨rfl, rfl⟩
        refine ⟨rfl, _, rfl, (hg : Int), rfl, by omega, by omega, ?_⟩
        rw [toNat_k]
        refine fun D2 nD2 => ?_
        refine lc_it walk_rangeN (PvS (fun z => z.length ≤ 200) d l H6 D2) (PvS.start D6 nD2) (fun _ _ _ _ => trivial) ?_ ?_
        · rintro j y H7 H8 hj pv ⟨rfl, rfl⟩
          refine ⟨rfl, _, rfl, _, rfl, d, l, wd, rfl, pv.dice, hw1, hw2, fun H9 zs k9 D9 hz => ?_⟩
          exact pv.step D6 nD2 (by omega) k9 D9 (Nat.le_trans hz hw2)
        · rintro H7 ⟨zss, hl, hR, k7, D7, e7⟩
          refine ⟨D2, _, rfl, .inl ⟨SqL.of e7, fun p np => ?_⟩⟩
          have eD7 := k7 _ _ ndD.1 eD
          have t67 := kpTup D6 k7
          have tn : TK H7 (upd H7 p (.tup (zss.map sV))) := TK.new (TK.refl _) np
          have hp : PgR (upd H7 p (.tup (zss.map sV))) (.ref p) zss := PgR.iff.mpr ⟨p, rfl, upd_same⟩
          have lv8 : LV (PgR (upd H7 p (.tup (zss.map sV)))) us xs := lv.mono fun _ _ z => PgR.mn.to z (TK.trans t67 tn)
          have eD8 := (upd_ne (o := .tup (zss.map sV)) (ne_of_none eD7 np)).trans eD7
          have k8 := (k6.trans k7).new (o := .tup (zss.map sV)) np
          have D8 := D7.new (o := .tup (zss.map sV)) np
          generalize upd H7 p (.tup (zss.map sV)) = H8 at hp lv8 eD8 k8 D8
          have lvl := lv8.1
          refine ⟨us, eD8, szN (by omega), us ++ [.ref p], xs ++ [zss], upd_same, (lv8.snoc hp).mono fun _ _ z => PgR.mn.to z (TK.mut (TK.refl _) eD8), by rw [List.length_append, lx]; rfl, fun y hy => ?_, k8.mut nD, D8.at ndD.1 ndD.2⟩
          rcases List.mem_append.mp hy with h | h
          · exact hx2 y h
          · rw [List.mem_singleton.mp h]; exact ⟨by omega, hR⟩
      · rintro H5 ⟨us, xs, eD, lv, lx, hok, k5, D5⟩
        refine ⟨D, _, rfl, .inl ⟨SqL.of eD, fun p np => ?_⟩⟩
        exact q _ _ xs ((k4.trans k5).new np) (D5.new np) (TupR.new PgR.mn lv np) ⟨by omega, hok⟩
end
end Vf

set_option Elab.async false
set_option linter.all false
set_option maxRecDepth 100000
set_option maxHeartbeats 4000000
namespace Vf
open PySem PySem.Spec PyProof.Rows L2 TL
/-- two values are the same data, at most n - 1 tuples deep -/
def Eqv : Nat → Hp → V → V → Prop
  | 0, _, _, _ => False
  | n + 1, H, v, u => ((∃ z, v = .str z ∧ u = .str z) ∨ (∃ i, v = .int i ∧ u = .int i) ∨ (v = .non ∧ u = .non)) ∨
      ∃ (a b : Addr) (xs ys : List V), v = .ref a ∧ u = .ref b ∧ H a = some (.tup xs) ∧ H b = some (.tup ys) ∧ xs.length = ys.length ∧ xs.length ≤ 100000 ∧ ∀ (i : Nat) x y, xs[i]? = some x → ys[i]? = some y → Eqv n H x y
def spExact (n : Nat) : Sp := fun vs H Q _ => ∃ (v u : V), vs = [v, u] ∧ Eqv n H v u ∧ Q (.bl true) H
theorem eq_self {H : Hp} {Q : VK} {x : V} (q : Q (.bl true) H) : Q (.bl (decide (x = x))) H := by
  rw [decide_eq_true rfl]; exact q
section
variable {P : Program} {w : World} {K : PySem.W.Frag} {mg : Str → Option Value} {base : Heap}
theorem ok_exact (T : Txt K mg) : ∀ n : Nat, FnOk P w K mg base CX0 (n + 1) T.a_law_exact T.d_law_exact ["_law_told", "_law_due"] (spExact n)
  | 0 => by
    refine T.D_law_exact.F.ok sc_law_exact (fun vs H Q E h => ?_) (fun cdv A outer s H vs Q E hr h => ?_)
    · obtain ⟨v, u, rfl, _⟩ := h
      rfl
    · obtain ⟨v, u, rfl, hE, q⟩ := h
      exact hE.elim
  | n + 1 => by
    have G_law_exact : FnOk P w K mg base CX0 (n + 1) T.a_law_exact T.d_law_exact ["_law_told", "_law_due"] (spExact n) := ok_exact T n
    refine T.D_law_exact.F.ok sc_law_exact (fun vs H Q E h => ?_) (fun cdv A outer s H vs Q E hr h => ?_)
    · obtain ⟨v, u, rfl, _⟩ := h
      rfl
    · obtain ⟨v, u, rfl, hE, q⟩ := h
      refine ⟨_, (pss_cons (ps_if (pt_val (pe_callB call_isi (by rfl) T.n_isinstance (by decide +kernel) (pa_cons (pv 1) (pa_cons (pe_bltn (v := .ty "tuple") (by rfl) T.n_tuple (by decide +kernel) rfl) pa_nil)))) (pss_cons (ps_if (PW.pt (pw_or (pt_not (pt_val (pe_callB call_isi (by rfl) T.n_isinstance (by decide +kernel) (pa_cons (pv 0) (pa_cons (pe_bltn (v := .ty "tuple") (by rfl) T.n_tuple (by decide +kernel) rfl) pa_nil))))) (pw_or1 (pt_cmpR op_ne (pe_callB call_len (by rfl) T.n_len PySem.boot_len (pa_cons (pv 0) pa_nil)) (pe_callB call_len (by rfl) T.n_len PySem.boot_len (pa_cons (pv 1) pa_nil)) (nomark _))))) (pss_one (ps_ret pe_bl)) pss_nil)
      (pss_cons (ps_for PassesOwn.never rfl (pi_range1 (by rfl) T.n_range (pa_cons (pe_callB call_len (by rfl) T.n_len PySem.boot_len (pa_cons (pv 1) pa_nil)) pa_nil)) (pg_name (i := 2) sc_law_exact.nd rfl (.inl rfl)) (pss_one (ps_if (pt_not (pt_val (pe_call G_law_exact hr (by rfl) T.D_law_exact.G T.D_law_exact.F.kp T.D_law_exact.B .nil pass0 (pa_cons (pe_ix ix_seq (pv 0) (pv 2) (fun _ _ => rfl)) (pa_cons (pe_ix ix_seq (pv 1) (pv 2) (fun _ _ => rfl)) pa_nil))))) (pss_one (ps_ret pe_bl)) pss_nil)))
      (pss_one (ps_ret pe_bl)))) pss_nil)
      (pss_cons (ps_if (pt_cmpR op_isN (pv 1) pe_non (nomark _)) (pss_one (ps_ret (pe_cmpR op_isN (pv 0) pe_non (nomark _)))) pss_nil)
      (pss_cons (ps_if (pt_val (pe_callB call_isi (by rfl) T.n_isinstance (by decide +kernel) (pa_cons (pv 1) (pa_cons (pe_bltn (v := .ty "bool") (by rfl) T.n_bool (by decide +kernel) rfl) pa_nil)))) (pss_one (ps_ret (pe_and (pe_callB call_isi (by rfl) T.n_isinstance (by decide +kernel) (pa_cons (pv 0) (pa_cons (pe_bltn (v := .ty "bool") (by rfl) T.n_bool (by decide +kernel) rfl) pa_nil))) (pe_one (pe_cmpR op_eq (pv 0) (pv 1) (nomark _)))))) pss_nil)
      (pss_cons (ps_if (pt_val (pe_callB call_isi (by rfl) T.n_isinstance (by decide +kernel) (pa_cons (pv 1) (pa_cons (pe_bltn (v := .ty "int") (by rfl) T.n_int (by decide +kernel) rfl) pa_nil)))) (pss_one (ps_ret (pe_and (pe_callB call_isi (by rfl) T.n_isinstance (by decide +kernel) (pa_cons (pv 0) (pa_cons (pe_bltn (v := .ty "int") (by rfl) T.n_int (by decide +kernel) rfl) pa_nil))) (pe_and (pe_not (pe_callB call_isi (by rfl) T.n_isinstance (by decide +kernel) (pa_cons (pv 0) (pa_cons (pe_bltn (v := .ty "bool") (by rfl) T.n_bool (by decide +kernel) rfl) pa_nil)))) (pe_one (pe_cmpR op_eq (pv 0) (pv 1) (nomark _))))))) pss_nil)
      (pss_one (ps_ret (pe_and (pe_callB call_isi (by rfl) T.n_isinstance (by decide +kernel) (pa_cons (pv 0) (pa_cons (pe_bltn (v := .ty "str") (by rfl) T.n_str (by decide +kernel) rfl) pa_nil))) (pe_one (pe_cmpR op_eq (pv 0) (pv 1) (nomark _)))))))))), ?_⟩
      rcases hE with (⟨z, rfl, rfl⟩ | ⟨i, rfl, rfl⟩ | ⟨rfl, rfl⟩) | ⟨a, b, xs, ys, rfl, rfl, ha, hb, el, en, hE⟩
      · refine ⟨_, rfl, _, _, .type "str", .type "tuple", false, rfl, .ty _, .base (.str _), kit_ty (by decide +kernel), _, rfl, ?_⟩
        refine ⟨_, rfl, rfl, false, bl_of (decide_eq_false (fun e => by cases e)), ?_⟩
        refine ⟨_, rfl, _, _, .type "str", .type "bool", false, rfl, .ty _, .base (.str _), kit_ty (by decide +kernel), _, rfl, ?_⟩
        refine ⟨_, rfl, _, _, .type "str", .type "int", false, rfl, .ty _, .base (.str _), kit_ty (by decide +kernel), _, rfl, ?_⟩
        exact ⟨_, rfl, _, _, .type "str", .type "str", true, rfl, .ty _, .base (.str _), kit_ty (by decide +kernel), true, rfl, _, rfl, _, rfl, rfl, eq_self q⟩
      · refine ⟨_, rfl, _, _, .type "int", .type "tuple", false, rfl, .ty _, .base (.int _), kit_ty (by decide +kernel), _, rfl, ?_⟩
        refine ⟨_, rfl, rfl, false, bl_of (decide_eq_false (fun e => by cases e)), ?_⟩
        refine ⟨_, rfl, _, _, .type "int", .type "bool", false, rfl, .ty _, .base (.int _), kit_ty (by decide +kernel), _, rfl, ?_⟩
        refine ⟨_, rfl, _, _, .type "int", .type "int", true, rfl, .ty _, .base (.int _), kit_ty (by decide +kernel), _, rfl, ?_⟩
        exact ⟨_, rfl, _, _, .type "int", .type "int", true, rfl, .ty _, .base (.int _), kit_ty (by decide +kernel), true, rfl, _, rfl, _, _, .type "int", .type "bool", false, rfl, .ty _, .base (.int _), kit_ty (by decide +kernel), false, rfl, true, rfl, _, rfl, _, rfl, rfl, eq_self q⟩
      · refine ⟨_, rfl, _, _, .type "NoneType", .type "tuple", false, rfl, .ty _, .base .non, kit_ty (by decide +kernel), _, rfl, ?_⟩
        exact ⟨_, rfl, rfl, true, bl_of (decide_eq_true rfl), _, rfl, rfl, eq_self q⟩
      · refine ⟨_, rfl, _, _, .type "tuple", .type "tuple", true, rfl, .ty _, .base (.tup hb), kit_ty (by decide +kernel), _, rfl, ?_⟩
        refine ⟨_, rfl, _, _, .type "tuple", .type "tuple", true, rfl, .ty _, .base (.tup ha), kit_ty (by decide +kernel), _, rfl, ?_⟩
        refine ⟨_, rfl, _, _, rfl, .inr ⟨_, SqT.of ha, rfl⟩, _, rfl, _, _, rfl, .inr ⟨_, SqT.of hb, rfl⟩, rfl, false, ?_, ?_⟩
        · rw [el, decide_eq_true rfl]; rfl
        refine ⟨_, rfl, _, _, rfl, .inr ⟨_, SqT.of hb, rfl⟩, _, rfl, by omega, by omega, ?_⟩
        refine for_range (lo := 0) (n := ((ys.length : Nat) : Int).toNat) (fun i σ' H' => H' = H ∧ ∃ x2 : Option V, σ' = [some (.ref a), some (.ref b), x2]) ⟨rfl, none, rfl⟩ ?_ ?_
        · rintro i σ' H' hi ⟨rfl, x2, rfl⟩
          have hi2 : i < ys.length := by omega
          have hi1 : i < xs.length := by omega
          have gx : xs[i]? = some xs[i] := List.getElem?_eq_getElem hi1
          have gy : ys[i]? = some ys[i] := List.getElem?_eq_getElem hi2
          have e0 : ((0 : Int) + (i : Int)) = (i : Int) := Int.zero_add _
          refine ⟨_, rfl, _, rfl, .inr (.inl ⟨a, xs, _, _, rfl, rfl, SqT.of ha, at_of e0 gx, ?_⟩)⟩
          refine ⟨_, rfl, _, rfl, .inr (.inl ⟨b, ys, _, _, rfl, rfl, SqT.of hb, at_of e0 gy, ?_⟩)⟩
          exact ⟨_, _, rfl, hE i _ _ gx gy, true, rfl, rfl, _, rfl⟩
        · rintro σ' H' ⟨rfl, x2, rfl⟩
          exact q
end
end Vf

set_option Elab.async false
set_option linter.all false
set_option maxRecDepth 100000
set_option maxHeartbeats 4000000
namespace Vf
open PySem PySem.Spec PyProof.Rows L2 TL
theorem tup_eqv {α : Type} {R : Hp → V → α → Prop} {n : Nat} {H : Hp} {u v : V} {rs : List α} (hu : TupR R H u rs) (hv : TupR R H v rs) (hl : rs.length ≤ 1000) (he : ∀ r ∈ rs, ∀ x y, R H x r → R H y r → Eqv n H x y) : Eqv (n + 1) H u v := by
  obtain ⟨a, us, rfl, ea, lu⟩ := hu
  obtain ⟨b, vs, rfl, eb, lw⟩ := hv
  have l1 := lu.1
  have l2 := lw.1
  refine .inr ⟨a, b, us, vs, rfl, rfl, ea, eb, by omega, by omega, fun i x y hx hy => ?_⟩
  obtain ⟨r, er, hr⟩ := lu.at hx
  obtain ⟨r2, er2, hr2⟩ := lw.at hy
  rw [er] at er2
  have e := Option.some.inj er2
  subst e
  exact he r (List.mem_of_getElem? er) x y hr hr2
theorem lk_eqv {H : Hp} {u v : V} {l : List Pg} (hu : LkR H u l) (hv : LkR H v l) (ok : LkOk l) : Eqv 3 H u v :=
  tup_eqv hu hv (by have := ok.1; omega) fun p hp _ _ hx hy => tup_eqv hx hy (by have := (ok.2 p hp).1; omega) fun r _ x y hx hy => by
    rw [show x = sV r from hx, show y = sV r from hy]
    exact .inl (.inl ⟨_, rfl, rfl⟩)
theorem stp_n {H : Hp} {p : Addr} {k n : Nat} {x y : V} (hk : k < 3) (e1 : x = V.str (nmS k)) (e2 : y = nV n) : StpR (upd H p (.tup [x, y])) (.ref p) (k, n) := ⟨p, rfl, by rw [upd_same, e1, e2]; show _ = some (HO.tup (if k < 3 then _ else _)); rw [if_pos hk]⟩
theorem stp_1 {H : Hp} {p : Addr} {k n : Nat} {x : V} (hk : 3 ≤ k) (e1 : x = V.str (nmS k)) : StpR (upd H p (.tup [x])) (.ref p) (k, n) := ⟨p, rfl, by rw [upd_same, e1]; show _ = some (HO.tup (if k < 3 then _ else _)); rw [if_neg (by omega)]⟩
theorem stOk {k n : Nat} (h1 : k < 8) (h2 : 1 ≤ n) (h3 : n ≤ 1000) : StOk (k, n) := ⟨h1, h2, h3⟩
theorem kpS {d : Addr} {H H' : Hp} (s : Same H H') : Kp d H H' := fun b o _ e => s b o e
theorem cut_take (us : List V) (n : Nat) : cutV us none (some (n : Int)) = us.take n := by
  unfold cutV
  rw [HT.sIx_none, HT.sIx_nat, List.drop_zero, Nat.sub_zero]
  by_cases c : n ≤ us.length
  · rw [Nat.min_eq_left c]
  · rw [Nat.min_eq_right (by omega), List.take_length, List.take_of_length_le (by omega)]
theorem lk_take {H : Hp} {l : List Pg} {a : Addr} {us : List V} (ea : H a = some (.tup us)) (lv : LV (PgR H) us l) {n : Nat} {H' : Hp} {b : Addr} (k : Same H H') (e : H' b = some (.tup (us.take n))) : LkR H' (.ref b) (l.take n) :=
  ⟨b, _, rfl, e, (lv.mono fun _ _ z => PgR.mn.to z (TK.same k)).takeN n⟩
theorem lk_ok_take {l : List Pg} (ok : LkOk l) (n : Nat) : LkOk (l.take n) := ⟨by rw [List.length_take]; exact Nat.le_trans (Nat.min_le_right _ _) ok.1, fun p hp => ok.2 p (List.mem_of_mem_take hp)⟩
section
variable {P : Program} {w : World} {K : PySem.W.Frag} {mg : Str → Option Value} {base : Heap}
def spWidths : Sp := fun vs H Q _ => ∃ (d l : Addr) (lv : V) (lk : List Pg), vs = [.ref d, lv] ∧ DI d l H ∧ LkR H lv lk ∧ LkOk lk ∧ ∀ H', Kp d H H' → DI d l H' → Q (.bl true) H'
theorem ok_widths (T : Txt K mg) : FnOk P w K mg base CX0 5 T.a_law_widths_add T.d_law_widths_add ["_law_d", "_law_look"] spWidths := by
  have G_law_draw : FnOk P w K mg base CX0 1 T.a_law_draw T.d_law_draw ["_law_d", "_law_many"] spDraw := ok_draw T
  have G_draw : FnOk P w K mg base CX0 4 T.a_draw T.d_draw ["step", "look"] spDue := ok_drawS T
  have G_law_exact : FnOk P w K mg base CX0 4 T.a_law_exact T.d_law_exact ["_law_told", "_law_due"] (spExact 3) := ok_exact T 3
  refine T.D_law_widths_add.F.ok sc_law_widths_add (fun vs H Q E h => ?_) (fun cdv A outer s H vs Q E hr h => ?_)
  · obtain ⟨d, l, lv, lk, rfl, _⟩ := h
    rfl
  · obtain ⟨d, l, lv, lk, rfl, hD, hlk, hok, q⟩ := h
    refine ⟨_, (pss_cons (ps_set (i := 2) sc_law_widths_add.nd rfl (.inl rfl) (pe_op op_add pe_int (pe_call G_law_draw (hr.mono (by decide)) (by rfl) T.D_law_draw.G T.D_law_draw.F.kp T.D_law_draw.B .nil pass0 (pa_cons (pv 0) (pa_cons pe_int pa_nil)))))
      (pss_cons (ps_set (i := 3) sc_law_widths_add.nd rfl (.inl rfl) (pe_op op_add pe_int (pe_call G_law_draw (hr.mono (by decide)) (by rfl) T.D_law_draw.G T.D_law_draw.F.kp T.D_law_draw.B .nil pass0 (pa_cons (pv 0) (pa_cons pe_int pa_nil)))))
      (pss_cons (ps_set (i := 4) sc_law_widths_add.nd rfl (.inl rfl) (pe_call G_draw (hr.mono (by decide)) (by rfl) T.D_draw.G T.D_draw.F.kp T.D_draw.B .nil pass0 (pa_cons (pe_tup (pa_cons pe_str (pa_cons (pe_op op_add (pv 2) (pv 3)) pa_nil))) (pa_cons (pv 1) pa_nil))))
      (pss_cons (ps_if (pt_not (pt_val (pe_call G_law_exact (hr.mono (by decide)) (by rfl) T.D_law_exact.G T.D_law_exact.F.kp T.D_law_exact.B .nil pass0 (pa_cons (pe_call G_draw (hr.mono (by decide)) (by rfl) T.D_draw.G T.D_draw.F.kp T.D_draw.B .nil pass0 (pa_cons (pe_tup (pa_cons pe_str (pa_cons (pv 2) pa_nil))) (pa_cons (pe_call G_draw (hr.mono (by decide)) (by rfl) T.D_draw.G T.D_draw.F.kp T.D_draw.B .nil pass0 (pa_cons (pe_tup (pa_cons pe_str (pa_cons (pv 3) pa_nil))) (pa_cons (pv 1) pa_nil))) pa_nil))) (pa_cons (pv 4) pa_nil))))) (pss_one (ps_ret pe_bl)) pss_nil)
      (pss_one (ps_ret (pe_call G_law_exact (hr.mono (by decide)) (by rfl) T.D_law_exact.G T.D_law_exact.F.kp T.D_law_exact.B .nil pass0 (pa_cons (pe_call G_draw (hr.mono (by decide)) (by rfl) T.D_draw.G T.D_draw.F.kp T.D_draw.B .nil pass0 (pa_cons (pe_tup (pa_cons pe_str (pa_cons (pv 3) pa_nil))) (pa_cons (pe_call G_draw (hr.mono (by decide)) (by rfl) T.D_draw.G T.D_draw.F.kp T.D_draw.B .nil pass0 (pa_cons (pe_tup (pa_cons pe_str (pa_cons (pv 2) pa_nil))) (pa_cons (pv 1) pa_nil))) pa_nil))) (pa_cons (pv 4) pa_nil))))))))), ?_⟩
    refine ⟨_, rfl, d, l, 10, rfl, hD, by decide, fun H1 r1 k1 D1 a1 a2 => ?_⟩
    obtain ⟨m, rfl, hm⟩ := draw_nt (by decide) a1 a2
    refine ⟨_, _, rfl, rfl, _, rfl, d, l, 10, rfl, D1, by decide, fun H2 r2 k2 D2 b1 b2 => ?_⟩
    obtain ⟨n, rfl, hn⟩ := draw_nt (by decide) b1 b2
    have hlk2 := LkR.mn.to hlk (TK.trans (kpTup hD k1) (kpTup D1 k2))
    refine ⟨_, _, rfl, rfl, ?_⟩
    refine ⟨_, rfl, _, rfl, _, _, rfl, rfl, big_ok (by show 2 ≤ _; omega), fun p np => ?_⟩
    have s3 := same_upd (o := .tup [V.str ("wide" : Str), V.int ((1 + (m : Int)) + (1 + (n : Int)))]) (Same.refl H2) np
    have st3 : StpR (upd H2 p (.tup [V.str ("wide" : Str), V.int ((1 + (m : Int)) + (1 + (n : Int)))])) (.ref p) (0, (m + 1) + (n + 1)) := stp_n (by decide) rfl (by unfold nV; exact congrArg V.int (by omega))
    refine ⟨_, rfl, .ref p, lv, (0, (m + 1) + (n + 1)), lk, rfl, st3, stOk (by omega) (by omega) (by omega), LkR.mn.to hlk2 (TK.same s3), hok, fun H4 u4 s4 hu4 => ?_⟩
    have s24 := s3.trans s4
    have hu4 : LkR H4 u4 (drawN 0 ((m + 1) + (n + 1)) lk) := hu4
    -- wide m upon wide n, then the other way
    have dok := drawN_ok (k := 0) (n := (m + 1) + (n + 1)) (show 0 < 8 by omega) hok
    refine ⟨_, rfl, big_ok (by show 2 ≤ _; omega), fun p1 np1 => ⟨_, rfl, big_ok (by show 2 ≤ _; omega), fun p2 np2 => ?_⟩⟩
    have s5a := same_upd (o := .tup [V.str ("wide" : Str), V.int (1 + (m : Int))]) (Same.refl H4) np1
    have st5a : StpR (upd H4 p1 (.tup [V.str ("wide" : Str), V.int (1 + (m : Int))])) (.ref p1) (0, m + 1) := stp_n (by decide) rfl (by unfold nV; exact congrArg V.int (by omega))
    generalize upd H4 p1 (.tup [V.str ("wide" : Str), V.int (1 + (m : Int))]) = H5a at s5a st5a np2
    have s6a := same_upd (o := .tup [V.str ("wide" : Str), V.int (1 + (n : Int))]) s5a np2
    have st6a : StpR (upd H5a p2 (.tup [V.str ("wide" : Str), V.int (1 + (n : Int))])) (.ref p2) (0, n + 1) := stp_n (by decide) rfl (by unfold nV; exact congrArg V.int (by omega))
    have st5a := StpR.mn.to st5a (TK.new (o := .tup [V.str ("wide" : Str), V.int (1 + (n : Int))]) (TK.refl _) np2)
    generalize upd H5a p2 (.tup [V.str ("wide" : Str), V.int (1 + (n : Int))]) = H6a at s6a st5a st6a
    refine ⟨_, rfl, .ref p2, lv, (0, n + 1), lk, rfl, st6a, stOk (by omega) (by omega) (by omega), LkR.mn.to hlk2 (TK.same (s24.trans s6a)), hok, fun H7a u7a s7a hu7a => ?_⟩
    refine ⟨.ref p1, u7a, (0, m + 1), _, rfl, StpR.mn.to st5a (TK.same s7a), stOk (by omega) (by omega) (by omega), hu7a, drawN_ok (show 0 < 8 by omega) hok, fun H8a u8a s8a hu8a => ?_⟩
    have s48a := s6a.trans (s7a.trans s8a)
    have hu8a : LkR H8a u8a (drawN 0 ((m + 1) + (n + 1)) lk) := by
      have e := draw_wide (m + 1) (n + 1) lk
      skip
      rw [← e]; exact hu8a
    refine ⟨_, rfl, _, _, rfl, lk_eqv hu8a (LkR.mn.to hu4 (TK.same s48a)) dok, ?_⟩
    refine ⟨true, rfl, ?_⟩
    have s2b := s24.trans s48a
    have hub := LkR.mn.to hu4 (TK.same s48a)
    refine ⟨_, rfl, big_ok (by show 2 ≤ _; omega), fun p1 np1 => ⟨_, rfl, big_ok (by show 2 ≤ _; omega), fun p2 np2 => ?_⟩⟩
    have s5b := same_upd (o := .tup [V.str ("wide" : Str), V.int (1 + (n : Int))]) (Same.refl H8a) np1
    have st5b : StpR (upd H8a p1 (.tup [V.str ("wide" : Str), V.int (1 + (n : Int))])) (.ref p1) (0, n + 1) := stp_n (by decide) rfl (by unfold nV; exact congrArg V.int (by omega))
    generalize upd H8a p1 (.tup [V.str ("wide" : Str), V.int (1 + (n : Int))]) = H5b at s5b st5b np2
    have s6b := same_upd (o := .tup [V.str ("wide" : Str), V.int (1 + (m : Int))]) s5b np2
    have st6b : StpR (upd H5b p2 (.tup [V.str ("wide" : Str), V.int (1 + (m : Int))])) (.ref p2) (0, m + 1) := stp_n (by decide) rfl (by unfold nV; exact congrArg V.int (by omega))
    have st5b := StpR.mn.to st5b (TK.new (o := .tup [V.str ("wide" : Str), V.int (1 + (m : Int))]) (TK.refl _) np2)
    generalize upd H5b p2 (.tup [V.str ("wide" : Str), V.int (1 + (m : Int))]) = H6b at s6b st5b st6b
    refine ⟨_, rfl, .ref p2, lv, (0, m + 1), lk, rfl, st6b, stOk (by omega) (by omega) (by omega), LkR.mn.to hlk2 (TK.same (s2b.trans s6b)), hok, fun H7b u7b s7b hu7b => ?_⟩
    refine ⟨.ref p1, u7b, (0, n + 1), _, rfl, StpR.mn.to st5b (TK.same s7b), stOk (by omega) (by omega) (by omega), hu7b, drawN_ok (show 0 < 8 by omega) hok, fun H8b u8b s8b hu8b => ?_⟩
    have s48b := s6b.trans (s7b.trans s8b)
    have hu8b : LkR H8b u8b (drawN 0 ((m + 1) + (n + 1)) lk) := by
      have e := draw_wide (n + 1) (m + 1) lk
      rw [Nat.add_comm (n + 1) (m + 1)] at e
      rw [← e]; exact hu8b
    refine ⟨_, rfl, _, _, rfl, lk_eqv hu8b (LkR.mn.to hub (TK.same s48b)) dok, ?_⟩
    have sAll := s2b.trans s48b
    exact q _ ((k1.trans k2).trans (kpS sAll)) (D2.keep sAll)
end
end Vf

set_option Elab.async false
set_option linter.all false
set_option maxRecDepth 100000
set_option maxHeartbeats 4000000
namespace Vf
open PySem PySem.Spec PyProof.Rows L2 TL
/-- a list of steps -/
structure SlR (H : Hp) (S : Addr) (svs : List V) (sts : List (Nat × Nat)) : Prop where
  at_ : H S = some (.lst svs)
  lv : LV (StpR H) svs sts
theorem SlR.kp {d l : Addr} {H H' : Hp} {S : Addr} {svs : List V} {sts : List (Nat × Nat)} (h : SlR H S svs sts) (D : DI d l H) (nd : S ≠ d) (k : Kp d H H') : SlR H' S svs sts := ⟨k _ _ nd h.at_, h.lv.mono fun _ _ z => StpR.mn.to z (kpTup D k)⟩
theorem SlR.same {H H' : Hp} {S : Addr} {svs : List V} {sts : List (Nat × Nat)} (h : SlR H S svs sts) (k : Same H H') : SlR H' S svs sts := ⟨k _ _ h.at_, h.lv.mono fun _ _ z => StpR.mn.to z (TK.same k)⟩
def StsOk (sts : List (Nat × Nat)) : Prop := sts.length ≤ 10 ∧ ∀ st ∈ sts, StOk st ∧ st.1 ≠ 2
section
variable {P : Program} {w : World} {K : PySem.W.Frag} {mg : Str → Option Value} {base : Heap}
def spKeeps : Sp := fun vs H Q _ => ∃ (d l S : Addr) (lv : V) (lk : List Pg) (svs : List V) (sts : List (Nat × Nat)), vs = [.ref d, lv, .ref S] ∧ DI d l H ∧ LkR H lv lk ∧ LkOk lk ∧ S ≠ d ∧ SlR H S svs sts ∧ StsOk sts ∧ ∀ H', Kp d H H' → DI d l H' → Q (.bl true) H'
theorem ok_keeps (T : Txt K mg) : FnOk P w K mg base CX0 5 T.a_law_keeps T.d_law_keeps ["_law_d", "_law_look", "_law_steps"] spKeeps := by
  have G_law_draw : FnOk P w K mg base CX0 1 T.a_law_draw T.d_law_draw ["_law_d", "_law_many"] spDraw := ok_draw T
  have G_law_pick : FnOk P w K mg base CX0 2 T.a_law_pick T.d_law_pick ["_law_d", "_law_row"] (spPick K) := ok_pick T
  have G_draw : FnOk P w K mg base CX0 4 T.a_draw T.d_draw ["step", "look"] spDue := ok_drawS T
  have G_law_exact : FnOk P w K mg base CX0 4 T.a_law_exact T.d_law_exact ["_law_told", "_law_due"] (spExact 3) := ok_exact T 3
  refine T.D_law_keeps.F.ok sc_law_keeps (fun vs H Q E h => ?_) (fun cdv A outer s H vs Q E hr h => ?_)
  · obtain ⟨d, l, S, lv, lk, svs, sts, rfl, _⟩ := h
    rfl
  · obtain ⟨d, l, S, lv, lk, svs, sts, rfl, hD, hlk, hok, nSd, hS, oS, q⟩ := h
    refine ⟨_, (pss_cons (ps_set (i := 3) sc_law_keeps.nd rfl (.inl rfl) (pe_call G_law_pick (hr.mono (by decide)) (by rfl) T.D_law_pick.G T.D_law_pick.F.kp T.D_law_pick.B .nil pass0 (pa_cons (pv 0) (pa_cons (pe_lst (pa_cons pe_int (pa_cons pe_int (pa_cons pe_int (pa_cons pe_int (pa_cons pe_int (pa_cons (pe_op op_add pe_int (pe_call G_law_draw (hr.mono (by decide)) (by rfl) T.D_law_draw.G T.D_law_draw.F.kp T.D_law_draw.B .nil pass0 (pa_cons (pv 0) (pa_cons pe_int pa_nil)))) pa_nil))))))) pa_nil))))
      (pss_cons (ps_set (i := 4) sc_law_keeps.nd rfl (.inl rfl) (pe_call G_law_pick (hr.mono (by decide)) (by rfl) T.D_law_pick.G T.D_law_pick.F.kp T.D_law_pick.B .nil pass0 (pa_cons (pv 0) (pa_cons (pe_lst (pa_cons pe_int (pa_cons pe_int (pa_cons pe_int pa_nil)))) pa_nil))))
      (pss_cons (ps_set (i := 5) sc_law_keeps.nd rfl (.inl rfl) (pe_call G_draw (hr.mono (by decide)) (by rfl) T.D_draw.G T.D_draw.F.kp T.D_draw.B .nil pass0 (pa_cons (pe_tup (pa_cons pe_str (pa_cons (pv 3) pa_nil))) (pa_cons (pv 1) pa_nil))))
      (pss_cons (ps_if (PW.pt (pw_or (pt_not (pt_val (pe_call G_law_exact (hr.mono (by decide)) (by rfl) T.D_law_exact.G T.D_law_exact.F.kp T.D_law_exact.B .nil pass0 (pa_cons (pv 5) (pa_cons (pe_slice sl_tupA (pv 1) po_none (po_some (pv 3))) pa_nil))))) (pw_or1 (pt_not (pt_val (pe_call G_law_exact (hr.mono (by decide)) (by rfl) T.D_law_exact.G T.D_law_exact.F.kp T.D_law_exact.B .nil pass0 (pa_cons (pe_call G_draw (hr.mono (by decide)) (by rfl) T.D_draw.G T.D_draw.F.kp T.D_draw.B .nil pass0 (pa_cons (pe_tup (pa_cons pe_str (pa_cons (pv 4) pa_nil))) (pa_cons (pv 5) pa_nil))) (pa_cons (pe_slice sl_tupA (pv 1) po_none (po_some (pe_callB (call_min2 (by rfl)) (by rfl) T.n_min (by decide +kernel) (pa_cons (pv 4) (pa_cons (pv 3) pa_nil))))) pa_nil)))))))) (pss_one (ps_ret pe_bl)) pss_nil)
      (pss_cons (ps_for PassesOwn.never rfl (pi_list (pv 2)) (pg_name (i := 6) sc_law_keeps.nd rfl (.inl rfl)) (pss_one (ps_if (pt_not (pt_val (pe_call G_law_exact (hr.mono (by decide)) (by rfl) T.D_law_exact.G T.D_law_exact.F.kp T.D_law_exact.B .nil pass0 (pa_cons (pe_call G_draw (hr.mono (by decide)) (by rfl) T.D_draw.G T.D_draw.F.kp T.D_draw.B .nil pass0 (pa_cons (pe_tup (pa_cons pe_str (pa_cons (pv 3) pa_nil))) (pa_cons (pe_call G_draw (hr.mono (by decide)) (by rfl) T.D_draw.G T.D_draw.F.kp T.D_draw.B .nil pass0 (pa_cons (pv 6) (pa_cons (pv 1) pa_nil))) pa_nil))) (pa_cons (pe_call G_draw (hr.mono (by decide)) (by rfl) T.D_draw.G T.D_draw.F.kp T.D_draw.B .nil pass0 (pa_cons (pv 6) (pa_cons (pv 5) pa_nil))) pa_nil))))) (pss_one (ps_ret pe_bl)) pss_nil)))
      (pss_one (ps_ret pe_bl))))))), ?_⟩
    refine ⟨_, rfl, _, rfl, d, l, 20, rfl, hD, by decide, fun H1 r1 k1 D1 a1 a2 => ?_⟩
    obtain ⟨r, rfl, hr1⟩ := draw_nt (by decide) a1 a2
    refine ⟨_, _, rfl, rfl, big_ok (by show 6 ≤ _; omega), fun M nM => ?_⟩
    refine ⟨d, l, _, _, rfl, D1.new nM, .inl ⟨M, rfl, (D1.nd nM).1, SqL.of upd_same⟩, by show 0 < 6; omega, by show 6 ≤ 1000; omega, fun H2 v k2 D2 hv => ?_⟩
    obtain ⟨n, rfl, n1, n2⟩ : ∃ n : Nat, v = nV n ∧ 1 ≤ n ∧ n ≤ 1000 := by
      simp only [List.mem_cons, List.not_mem_nil, or_false] at hv
      rcases hv with rfl | rfl | rfl | rfl | rfl | rfl
      · exact ⟨1, rfl, by omega, by omega⟩
      · exact ⟨1, rfl, by omega, by omega⟩
      · exact ⟨2, rfl, by omega, by omega⟩
      · exact ⟨3, rfl, by omega, by omega⟩
      · exact ⟨20, rfl, by omega, by omega⟩
      · exact ⟨1 + r, by unfold nV; exact congrArg V.int (by omega), by omega, by omega⟩
    have k12 := (k1.new (o := _) nM).trans k2
    refine ⟨_, rfl, by decide, fun M2 nM2 => ?_⟩
    refine ⟨d, l, _, _, rfl, D2.new nM2, .inl ⟨M2, rfl, (D2.nd nM2).1, SqL.of upd_same⟩, by decide, by decide, fun H3 v k3 D3 hv => ?_⟩
    obtain ⟨m, rfl, m1, m2⟩ : ∃ n : Nat, v = nV n ∧ 1 ≤ n ∧ n ≤ 1000 := by
      simp only [List.mem_cons, List.not_mem_nil, or_false] at hv
      rcases hv with rfl | rfl | rfl
      · exact ⟨1, rfl, by omega, by omega⟩
      · exact ⟨2, rfl, by omega, by omega⟩
      · exact ⟨20, rfl, by omega, by omega⟩
    have k13 := (k12.new (o := _) nM2).trans k3
    have t13 := kpTup hD k13
    have hlk3 := LkR.mn.to hlk t13
    have hS3 := hS.kp hD nSd k13
    obtain ⟨a, us, rfl, ea, lu⟩ := hlk3
    have hlk3 : LkR H3 (.ref a) lk := ⟨a, us, rfl, ea, lu⟩
    refine ⟨_, rfl, big_ok (by show 2 ≤ _; omega), fun p np => ?_⟩
    have s4 := same_upd (o := .tup [V.str ("keep" : Str), nV n]) (Same.refl H3) np
    have st4 : StpR (upd H3 p (.tup [V.str ("keep" : Str), nV n])) (.ref p) (2, n) := stp_n (by decide) rfl rfl
    generalize upd H3 p (.tup [V.str ("keep" : Str), nV n]) = H4 at s4 st4
    refine ⟨_, rfl, .ref p, .ref a, (2, n), lk, rfl, st4, stOk (by omega) n1 n2, LkR.mn.to hlk3 (TK.same s4), hok, fun H5 u5 s5 hu5 => ?_⟩
    have s35 := s4.trans s5
    have hu5 : LkR H5 u5 (lk.take n) := hu5
    have tok := lk_ok_take hok n
    refine ⟨_, rfl, _, rfl, _, rfl, _, rfl, slA_any (s35 _ _ ea) fun b H6 s6 eb => ?_⟩
    rw [cut_take] at eb
    refine ⟨_, _, rfl, lk_eqv (LkR.mn.to hu5 (TK.same s6)) (lk_take ea lu (s35.trans s6) eb) tok, true, rfl, ?_⟩
    have s36 := s35.trans s6
    refine ⟨_, rfl, big_ok (by show 2 ≤ _; omega), fun p2 np2 => ?_⟩
    have s7 := same_upd (o := .tup [V.str ("keep" : Str), nV m]) (Same.refl H6) np2
    have st7 : StpR (upd H6 p2 (.tup [V.str ("keep" : Str), nV m])) (.ref p2) (2, m) := stp_n (by decide) rfl rfl
    generalize upd H6 p2 (.tup [V.str ("keep" : Str), nV m]) = H7 at s7 st7
    have s57 := s6.trans s7
    refine ⟨_, rfl, .ref p2, u5, (2, m), lk.take n, rfl, st7, stOk (by omega) m1 m2, LkR.mn.to hu5 (TK.same s57), tok, fun H8 u8 s8 hu8 => ?_⟩
    have s38 := s36.trans (s7.trans s8)
    have hu8 : LkR H8 u8 ((lk.take n).take m) := hu8
    rw [List.take_take] at hu8
    refine ⟨_, rfl, _, rfl, _, rfl, _, _, rfl, _, rfl, slA_any (s38 _ _ ea) fun b2 H9 s9 eb2 => ?_⟩
    rw [show (if ((n : Nat) : Int) < ((m : Nat) : Int) then ((n : Nat) : Int) else ((m : Nat) : Int)) = ((min m n : Nat) : Int) from by split <;> omega, cut_take] at eb2
    refine ⟨_, _, rfl, lk_eqv (LkR.mn.to hu8 (TK.same s9)) (lk_take ea lu (s38.trans s9) eb2) (lk_ok_take hok _), true, rfl, ?_⟩
    have s39 := s38.trans s9
    have hu9 := LkR.mn.to hu5 (TK.same (s57.trans (s8.trans s9)))
    have hlk9 := LkR.mn.to hlk3 (TK.same s39)
    have hS9 := hS3.same s39
    refine ⟨_, rfl, S, rfl, ⟨_, SqL.of hS9.at_⟩, ?_⟩
    refine for_it (walk_list (K := K) (a := S) (xs := svs)) (fun i σ' H' => ∃ x6 : Option V, σ' = [some (.ref d), some (.ref a), some (.ref S), some (nV n), some (nV m), some u5, x6] ∧ Same H9 H') ⟨none, rfl, Same.refl _⟩ ?_ ?_ ?_
    · rintro i σ1 H10 _ ⟨_, _, k⟩
      exact SqL.of (k _ _ hS9.at_)
    · rintro i x σ1 H10 H11 hi ⟨x6, rfl, s10⟩ ⟨rfl, hx⟩
      obtain ⟨st, est, hst⟩ := hS9.lv.at hx
      obtain ⟨os, os2⟩ := oS.2 st (List.mem_of_getElem? est)
      have hst := StpR.mn.to hst (TK.same s10)
      refine ⟨_, rfl, big_ok (by show 2 ≤ _; omega), fun p3 np3 => ?_⟩
      have s12 := same_upd (o := .tup [V.str ("keep" : Str), nV n]) (Same.refl H11) np3
      have st12 : StpR (upd H11 p3 (.tup [V.str ("keep" : Str), nV n])) (.ref p3) (2, n) := stp_n (by decide) rfl rfl
      generalize upd H11 p3 (.tup [V.str ("keep" : Str), nV n]) = H12 at s12 st12
      have s912 := s10.trans s12
      refine ⟨_, rfl, _, rfl, x, .ref a, st, lk, rfl, StpR.mn.to hst (TK.same s12), os, LkR.mn.to hlk9 (TK.same s912), hok, fun H13 u13 s13 hu13 => ?_⟩
      have dok := drawN_ok (n := st.2) os.1 hok
      refine ⟨.ref p3, u13, (2, n), _, rfl, StpR.mn.to st12 (TK.same s13), stOk (by omega) n1 n2, hu13, dok, fun H14 u14 s14 hu14 => ?_⟩
      have s1214 := s13.trans s14
      have s914 := s912.trans s1214
      have hu14 : LkR H14 u14 ((drawN st.1 st.2 lk).take n) := hu14
      refine ⟨_, rfl, _, rfl, x, u5, st, lk.take n, rfl, StpR.mn.to hst (TK.same (s12.trans s1214)), os, LkR.mn.to hu9 (TK.same s914), tok, fun H15 u15 s15 hu15 => ?_⟩
      rw [drawN_take os.1 os2] at hu15
      exact ⟨_, _, rfl, lk_eqv (LkR.mn.to hu14 (TK.same s15)) hu15 (lk_ok_take dok n), true, rfl, _, rfl, s914.trans s15⟩
    · rintro σ1 H10 ⟨x6, rfl, s10⟩
      have sAll := s39.trans s10
      exact q _ (k13.trans (kpS sAll)) (D3.keep sAll)
end
end Vf

set_option Elab.async false
set_option linter.all false
set_option maxRecDepth 100000
set_option maxHeartbeats 4000000
namespace Vf
open PySem PySem.Spec PyProof.Rows L2 TL
theorem hu1 {k : Nat} {A : Around} (r : Room k A) : A.units + 1 < cLine := by have := r.units; omega
theorem pg_at {p : Pg} {k : Nat} (h : k < p.length) : (p.map sV)[k]? = some (sV (p.getD k [])) := by
  rw [List.getElem?_map, List.getD_eq_getElem?_getD, List.getElem?_eq_getElem h]; rfl
theorem lk_at {H : Hp} {us : List V} {l : List Pg} (lv : LV (PgR H) us l) {i : Nat} (h : i < l.length) : ∃ b, us[i]? = some (.ref b) ∧ H b = some (.tup ((l.getD i []).map sV)) := by
  obtain ⟨x, e, hx⟩ := lv.get0 [] h
  obtain ⟨b, rfl, eb⟩ := PgR.iff.mp hx
  exact ⟨b, e, eb⟩
theorem str_at {zs : List Nat} {x : Nat} (h : x < zs.length) : atI (mkS zs).cps.toList ((x : Nat) : Int) = some (zs.getD x 0) := by
  refine atI_nat ?_
  show (zs.toArray.toList)[x]? = _
  rw [List.getD_eq_getElem?_getD, List.getElem?_eq_getElem h]
  simp [h]
theorem ne_len {a b : Nat} (h : a = b) : V.bl (!decide (V.int (a : Int) = V.int (b : Int))) = V.bl false := by
  rw [h, decide_eq_true (Eq.refl _)]; rfl
theorem ne_sg (a b : Nat) : (!decide (V.str ⟨#[a]⟩ = V.str ⟨#[b]⟩)) = !decide (a = b) := by
  by_cases h : a = b
  · subst h; rw [decide_eq_true (Eq.refl _), decide_eq_true (Eq.refl _)]
  · rw [decide_eq_false h, decide_eq_false]
    intro q
    have e3 : ([a] : List Nat) = [b] := mkS_inj (show mkS [a] = mkS [b] from V.str.inj q)
    injection e3 with e4
    exact h e4
def CovL (lk tk : List Pg) : Prop := tk.length = lk.length ∧ ∀ p, p < lk.length → (tk.getD p []).length = (lk.getD p []).length ∧ ∀ r, r < (lk.getD p []).length → ((tk.getD p []).getD r []).length = ((lk.getD p []).getD r []).length ∧
  ∀ x, x < ((lk.getD p []).getD r []).length → ((tk.getD p []).getD r []).getD x 0 = 35 ∨ ((tk.getD p []).getD r []).getD x 0 = ((lk.getD p []).getD r []).getD x 0
section
variable {P : Program} {w : World} {K : PySem.W.Frag} {mg : Str → Option Value} {base : Heap}
def spCov : Sp := fun vs H Q _ => ∃ (lv tv : V) (lk tk : List Pg), vs = [lv, tv] ∧ LkR H lv lk ∧ LkR H tv tk ∧ LkOk lk ∧ CovL lk tk ∧ Q (.bl true) H
theorem ok_cov (T : Txt K mg) : FnOk P w K mg base CX0 1 T.a_law_only_covers T.d_law_only_covers ["_law_look", "_law_told"] spCov := by
  refine T.D_law_only_covers.F.ok sc_law_only_covers (fun vs H Q E h => ?_) (fun cdv A outer s H vs Q E hr h => ?_)
  · obtain ⟨lv, tv, lk, tk, rfl, _⟩ := h
    rfl
  · obtain ⟨lv, tv, lk, tk, rfl, ⟨a, us, rfl, ea, lu⟩, ⟨b, ws, rfl, eb, lw⟩, hok, ⟨hl, hc⟩, q⟩ := h
    refine ⟨_, (pss_cons (ps_if (PW.pt (pw_or (pt_not (pt_val (pe_callB call_isi (by rfl) T.n_isinstance (by decide +kernel) (pa_cons (pv 1) (pa_cons (pe_bltn (v := .ty "tuple") (by rfl) T.n_tuple (by decide +kernel) rfl) pa_nil))))) (pw_or1 (pt_cmpR op_ne (pe_callB call_len_seq (by rfl) T.n_len PySem.boot_len (pa_cons (pv 1) pa_nil)) (pe_callB call_len_seq (by rfl) T.n_len PySem.boot_len (pa_cons (pv 0) pa_nil)) (nomark _))))) (pss_one (ps_ret pe_bl)) pss_nil)
      (pss_cons (ps_for PassesOwn.never rfl (pi_range1 (by rfl) T.n_range (pa_cons (pe_callB call_len_seq (by rfl) T.n_len PySem.boot_len (pa_cons (pv 0) pa_nil)) pa_nil)) (pg_name (i := 2) sc_law_only_covers.nd rfl (.inl rfl)) (pss_cons (ps_if (PW.pt (pw_or (pt_not (pt_val (pe_callB call_isi (by rfl) T.n_isinstance (by decide +kernel) (pa_cons (pe_ix ix_tup (pv 1) (pv 2) (fun _ _ => rfl)) (pa_cons (pe_bltn (v := .ty "tuple") (by rfl) T.n_tuple (by decide +kernel) rfl) pa_nil))))) (pw_or1 (pt_cmpR op_ne (pe_callB call_len_seq (by rfl) T.n_len PySem.boot_len (pa_cons (pe_ix ix_tup (pv 1) (pv 2) (fun _ _ => rfl)) pa_nil)) (pe_callB call_len_seq (by rfl) T.n_len PySem.boot_len (pa_cons (pe_ix ix_tup (pv 0) (pv 2) (fun _ _ => rfl)) pa_nil)) (nomark _))))) (pss_one (ps_ret pe_bl)) pss_nil)
      (pss_one (ps_for PassesOwn.never rfl (pi_range1 (by rfl) T.n_range (pa_cons (pe_callB call_len_seq (by rfl) T.n_len PySem.boot_len (pa_cons (pe_ix ix_tup (pv 0) (pv 2) (fun _ _ => rfl)) pa_nil)) pa_nil)) (pg_name (i := 3) sc_law_only_covers.nd rfl (.inl rfl)) (pss_cons (ps_if (PW.pt (pw_or (pt_not (pt_val (pe_callB call_isi (by rfl) T.n_isinstance (by decide +kernel) (pa_cons (pe_ix ix_tup (pe_ix ix_tup (pv 1) (pv 2) (fun _ _ => rfl)) (pv 3) (fun _ _ => rfl)) (pa_cons (pe_bltn (v := .ty "str") (by rfl) T.n_str (by decide +kernel) rfl) pa_nil))))) (pw_or1 (pt_cmpR op_ne (pe_callB call_len_str (by rfl) T.n_len PySem.boot_len (pa_cons (pe_ix ix_tup (pe_ix ix_tup (pv 1) (pv 2) (fun _ _ => rfl)) (pv 3) (fun _ _ => rfl)) pa_nil)) (pe_callB call_len_str (by rfl) T.n_len PySem.boot_len (pa_cons (pe_ix ix_tup (pe_ix ix_tup (pv 0) (pv 2) (fun _ _ => rfl)) (pv 3) (fun _ _ => rfl)) pa_nil)) (nomark _))))) (pss_one (ps_ret pe_bl)) pss_nil)
      (pss_one (ps_for PassesOwn.never rfl (pi_range1 (by rfl) T.n_range (pa_cons (pe_callB call_len_str (by rfl) T.n_len PySem.boot_len (pa_cons (pe_ix ix_tup (pe_ix ix_tup (pv 0) (pv 2) (fun _ _ => rfl)) (pv 3) (fun _ _ => rfl)) pa_nil)) pa_nil)) (pg_name (i := 4) sc_law_only_covers.nd rfl (.inl rfl)) (pss_one (ps_if (PW.pt (pw_and (pt_cmpR op_ne (pe_ix ix_str (pe_ix ix_tup (pe_ix ix_tup (pv 1) (pv 2) (fun _ _ => rfl)) (pv 3) (fun _ _ => rfl)) (pv 4) (fun _ _ => rfl)) pe_str (nomark _)) (pw_and1 (pt_cmpR op_ne (pe_ix ix_str (pe_ix ix_tup (pe_ix ix_tup (pv 1) (pv 2) (fun _ _ => rfl)) (pv 3) (fun _ _ => rfl)) (pv 4) (fun _ _ => rfl)) (pe_ix ix_str (pe_ix ix_tup (pe_ix ix_tup (pv 0) (pv 2) (fun _ _ => rfl)) (pv 3) (fun _ _ => rfl)) (pv 4) (fun _ _ => rfl)) (nomark _))))) (pss_one (ps_ret pe_bl)) pss_nil)))))))))
      (pss_one (ps_ret pe_bl)))), ?_⟩
    have l200 := hok.1
    have ul := lu.1
    have wl := lw.1
    refine ⟨_, rfl, _, _, .type "tuple", .type "tuple", true, rfl, .ty _, .base (.tup eb), kit_ty (by decide +kernel), _, rfl, ?_⟩
    refine ⟨_, rfl, _, _, rfl, .inr (SqT.of eb), _, rfl, _, _, rfl, .inr (SqT.of ea), rfl, false, ne_len (by omega), ?_⟩
    refine ⟨_, rfl, _, _, rfl, .inr (SqT.of ea), (lk.length : Int), by rw [ul], by omega, by omega, ?_⟩
    rw [toNat_k]
    refine for_it walk_rangeN (fun i σ' H' => H' = H ∧ ∃ x2 x3 x4 : Option V, σ' = [some (.ref a), some (.ref b), x2, x3, x4]) ⟨rfl, none, none, none, rfl⟩ (fun _ _ _ _ _ => trivial) ?_ ?_
    · rintro i x σ1 H1 H2 hi ⟨rfl, x2, x3, x4, rfl⟩ ⟨rfl, rfl⟩
      obtain ⟨b1, hb1, eb1⟩ := lk_at lu hi
      obtain ⟨b2, hb2, eb2⟩ := lk_at lw (show i < tk.length by omega)
      obtain ⟨pl, pc⟩ := hc i hi
      have p200 := (hok.2 _ (getD_mem (d := []) hi)).1
      have rok := (hok.2 _ (getD_mem (d := []) hi)).2
      generalize lk.getD i [] = pg at pl pc p200 rok eb1
      generalize tk.getD i [] = tg at pl pc eb2
      refine ⟨_, rfl, _, rfl, b, _, (i : Int), _, rfl, rfl, SqT.of eb, atI_nat hb2, _, _, .type "tuple", .type "tuple", true, rfl, .ty _, .base (.tup eb2), kit_ty (by decide +kernel), _, rfl, ?_⟩
      refine ⟨_, rfl, _, rfl, b, _, (i : Int), _, rfl, rfl, SqT.of eb, atI_nat hb2, b2, _, rfl, .inr (SqT.of eb2), _, rfl, _, rfl, a, _, (i : Int), _, rfl, rfl, SqT.of ea, atI_nat hb1, b1, _, rfl, .inr (SqT.of eb1), rfl, false, ne_len (by rw [List.length_map, List.length_map]; exact pl), ?_⟩
      refine ⟨_, rfl, _, rfl, a, _, (i : Int), _, rfl, rfl, SqT.of ea, atI_nat hb1, b1, _, rfl, .inr (SqT.of eb1), (pg.length : Int), by rw [List.length_map], by omega, by omega, ?_⟩
      rw [toNat_k]
      refine for_it walk_rangeN (fun j σ' H' => H' = H2 ∧ ∃ x3 x4 : Option V, σ' = [some (.ref a), some (.ref b), some (nV i), x3, x4]) ⟨rfl, x3, x4, rfl⟩ (fun _ _ _ _ _ => trivial) ?_ ?_
      · rintro j x σ2 H3 H4 hj ⟨rfl, x3, x4, rfl⟩ ⟨rfl, rfl⟩
        obtain ⟨rl, rc⟩ := pc j hj
        have r200 := rok _ (getD_mem (d := []) hj)
        have g1 := pg_at hj
        have g2 := pg_at (p := tg) (k := j) (by omega)
        generalize pg.getD j [] = r1 at rl rc r200 g1
        generalize tg.getD j [] = r2 at rl rc g2
        have z1 : (mkS r1).length ≤ sizeLine := by rw [mkS_len]; exact big_ok (by omega)
        have z2 : (mkS r2).length ≤ sizeLine := by rw [mkS_len]; exact big_ok (by omega)
        refine ⟨_, rfl, _, rfl, b, _, (i : Int), _, rfl, rfl, SqT.of eb, atI_nat hb2, _, rfl, b2, _, (j : Int), _, rfl, rfl, SqT.of eb2, atI_nat g2, _, _, .type "str", .type "str", true, rfl, .ty _, .base (.str _), kit_ty (by decide +kernel), _, rfl, ?_⟩
        refine ⟨_, rfl, _, rfl, b, _, (i : Int), _, rfl, rfl, SqT.of eb, atI_nat hb2, _, rfl, b2, _, (j : Int), _, rfl, rfl, SqT.of eb2, atI_nat g2, mkS r2, rfl, z2, _, rfl, _, rfl, a, _, (i : Int), _, rfl, rfl, SqT.of ea, atI_nat hb1, _, rfl, b1, _, (j : Int), _, rfl, rfl, SqT.of eb1, atI_nat g1, mkS r1, rfl, z1, rfl, false, ne_len (by rw [mkS_len, mkS_len]; exact rl), ?_⟩
        refine ⟨_, rfl, _, rfl, a, _, (i : Int), _, rfl, rfl, SqT.of ea, atI_nat hb1, _, rfl, b1, _, (j : Int), _, rfl, rfl, SqT.of eb1, atI_nat g1, mkS r1, rfl, z1, (r1.length : Int), by rw [mkS_len], by omega, by omega, ?_⟩
        rw [toNat_k]
        refine for_it walk_rangeN (fun k σ' H' => H' = H4 ∧ ∃ x4 : Option V, σ' = [some (.ref a), some (.ref b), some (nV i), some (nV j), x4]) ⟨rfl, x4, rfl⟩ (fun _ _ _ _ _ => trivial) ?_ ?_
        · rintro k x σ3 H5 H6 hk ⟨rfl, x4, rfl⟩ ⟨rfl, rfl⟩
          have rk := rc k hk
          refine ⟨_, rfl, _, rfl, b, _, (i : Int), _, rfl, rfl, SqT.of eb, atI_nat hb2, _, rfl, b2, _, (j : Int), _, rfl, rfl, SqT.of eb2, atI_nat g2, _, rfl, mkS r2, (k : Int), _, rfl, rfl, z2, str_at (by omega), rfl, !decide (r2.getD k 0 = 35), congrArg V.bl (congrArg (!·) (dec_sign _ _ 35 hash_mk)), ?_⟩
          by_cases c : r2.getD k 0 = 35
          · rw [decide_eq_true c]
            exact ⟨rfl, _, rfl⟩
          · rw [decide_eq_false c]
            have rk : r2.getD k 0 = r1.getD k 0 := by
              rcases rk with z | z
              · exact absurd z c
              · exact z
            refine ⟨_, rfl, _, rfl, b, _, (i : Int), _, rfl, rfl, SqT.of eb, atI_nat hb2, _, rfl, b2, _, (j : Int), _, rfl, rfl, SqT.of eb2, atI_nat g2, _, rfl, mkS r2, (k : Int), _, rfl, rfl, z2, str_at (by omega), _, rfl, _, rfl, a, _, (i : Int), _, rfl, rfl, SqT.of ea, atI_nat hb1, _, rfl, b1, _, (j : Int), _, rfl, rfl, SqT.of eb1, atI_nat g1, _, rfl, mkS r1, (k : Int), _, rfl, rfl, z1, str_at hk, rfl, false, ?_, rfl, _, rfl⟩
            rw [ne_sg, decide_eq_true rk]; rfl
        · rintro σ3 H5 ⟨rfl, x4, rfl⟩
          exact ⟨rfl, _, _, rfl⟩
      · rintro σ2 H3 ⟨rfl, x3, x4, rfl⟩
        exact ⟨rfl, _, _, _, rfl⟩
    · rintro σ1 H1 ⟨rfl, x2, x3, x4, rfl⟩
      exact q
end
end Vf

set_option Elab.async false
set_option linter.all false
set_option maxRecDepth 100000
set_option maxHeartbeats 4000000
namespace Vf
open PySem PySem.Spec PyProof.Rows L2 TL
def rowT (w : Nat) (f : Nat → Nat) (r : Rw) : Rw := if w = 1 then (r.map f).reverse else r.map f
def pgT (w : Nat) (f : Nat → Nat) (p : Pg) : Pg := if w = 2 then (p.map (rowT w f)).reverse else p.map (rowT w f)
theorem rowT_len (w : Nat) (f : Nat → Nat) (r : Rw) : (rowT w f r).length = r.length := by unfold rowT; split <;> simp
theorem pgT_ok {w : Nat} {f : Nat → Nat} {l : List Pg} (ok : LkOk l) : LkOk (l.map (pgT w f)) := by
  refine ⟨by rw [List.length_map]; exact ok.1, fun p hp => ?_⟩
  obtain ⟨q, hq, rfl⟩ := List.mem_map.mp hp
  have okq := ok.2 q hq
  have h : ∀ r ∈ q.map (rowT w f), r.length ≤ 200 := fun r hr => by
    obtain ⟨x, hx, rfl⟩ := List.mem_map.mp hr
    rw [rowT_len]; exact okq.2 x hx
  unfold pgT
  split
  · exact ⟨by rw [List.length_reverse, List.length_map]; exact okq.1, fun r hr => h r (List.mem_reverse.mp hr)⟩
  · exact ⟨by rw [List.length_map]; exact okq.1, h⟩
theorem dec_way (w k : Nat) : decide (nV w = V.int ((k : Nat) : Int)) = decide (w = k) := by
  by_cases h : w = k
  · rw [decide_eq_true h, h]; exact decide_eq_true rfl
  · rw [decide_eq_false h]
    exact decide_eq_false fun z => h (nV_inj z)
section
variable {P : Program} {w : World} {K : PySem.W.Frag} {mg : Str → Option Value} {base : Heap}
def spTurn : Sp := fun vs H Q _ => ∃ (lv : V) (wy : Nat) (t : Addr) (lk : List Pg) (kvs : List (Key × V)) (f : Nat → Nat), vs = [lv, nV wy, .ref t] ∧ LkR H lv lk ∧ LkOk lk ∧ H t = some (.dK kvs) ∧ (∀ c, (valV kvs (Sum.inr ⟨#[c]⟩ : Key)).getD (sV [c]) = sV [f c]) ∧
  ∀ H' u, Same H H' → LkR H' u (lk.map (pgT wy f)) → Q u H'
theorem ok_turned (T : Txt K mg) : FnOk P w K mg base CX0 1 T.a_law_turned T.d_law_turned ["_law_look", "_law_way", "_law_table"] spTurn := by
  refine T.D_law_turned.F.ok sc_law_turned (fun vs H Q E h => ?_) (fun cdv A outer s H vs Q E hr h => ?_)
  · obtain ⟨lv, wy, t, lk, kvs, f, rfl, _⟩ := h
    rfl
  · obtain ⟨lv, wy, t, lk, kvs, f, rfl, ⟨a, us, rfl, ea, lu⟩, hok, et, hf, q⟩ := h
    refine ⟨_, (pss_cons (ps_set (i := 3) sc_law_turned.nd rfl (.inl rfl) (pe_lst pa_nil))
      (pss_cons (ps_for PassesOwn.never rfl (pi_tup (pv 0)) (pg_name (i := 4) sc_law_turned.nd rfl (.inl rfl)) (pss_cons (ps_set (i := 5) sc_law_turned.nd rfl (.inl rfl) (pe_lst pa_nil))
      (pss_cons (ps_for PassesOwn.never rfl (pi_tup (pv 4)) (pg_name (i := 6) sc_law_turned.nd rfl (.inl rfl)) (pss_cons (ps_setLc (i := 7) (own := [("_law_sign", 8)]) (g := gName 8) (tt := tYes) rfl sc_law_turned.nd rfl rfl (sw_true rfl rfl rfl (by decide +kernel)) (pi_str (pv 6)) (blkOk_by (own := [("_law_sign", 8)]) (N := ["_law_look", "_law_way", "_law_table", "_law_pages", "_law_page", "_law_rows", "_law_row", "_law_cells", "_law_sign"]) (sc := (defScope s_law_turned)) (by decide +kernel)) (fun _ _ _ _ _ => (pg_name (i := 8) sc_law_turned.nd rfl (.inl rfl))) (fun _ _ _ _ _ => pts_nil) (fun _ _ _ _ _ => (pe_dget2 (hu1 hr) (pv 2) (pv 8) (pv 8) ⟨rfl, rfl, rfl, rfl⟩)))
      (Evl.pss_cut (ps_if (pt_cmpR op_eq (pv 1) pe_int (nomark _)) (pss_one (ps_expr (pe_bm0 PySem.F.plainAttrs_list PySem.F.slot_list_reverse PySem.F.type_list_reverse mt_reverse (pv 7)))) pss_nil)
      (pss_one (ps_expr (pe_bm PySem.F.plainAttrs_list PySem.F.slot_list_append PySem.F.type_list_append mt_append (pv 5) (pa_cons (pe_join pe_str (pv 7)) pa_nil)))))))
      (Evl.pss_cut (ps_if (pt_cmpR op_eq (pv 1) pe_int (nomark _)) (pss_one (ps_expr (pe_bm0 PySem.F.plainAttrs_list PySem.F.slot_list_reverse PySem.F.type_list_reverse mt_reverse (pv 5)))) pss_nil)
      (pss_one (ps_expr (pe_bm PySem.F.plainAttrs_list PySem.F.slot_list_append PySem.F.type_list_append mt_append (pv 3) (pa_cons (pe_callTy call_tuple_of (by rfl) T.n_tuple (by decide +kernel) (pa_cons (pv 5) pa_nil)) pa_nil))))))))
      (pss_one (ps_ret (pe_callTy call_tuple_of (by rfl) T.n_tuple (by decide +kernel) (pa_cons (pv 3) pa_nil)))))), ?_⟩
    refine ⟨Nat.zero_le _, fun R nR => ?_⟩
    have k0 := same_upd (o := .lst []) (Same.refl H) nR
    have eR0 : upd H R (.lst []) R = some (.lst []) := upd_same
    generalize upd H R (.lst []) = H0 at k0 eR0
    refine ⟨_, rfl, a, rfl, ⟨_, SqT.of (k0 _ _ ea)⟩, ?_⟩
    refine for_it (walk_tup (K := K) (a := a) (xs := us)) (fun i σ' H' => ∃ (x4 x5 x6 x7 : Option V) (zs : List V), σ' = [some (.ref a), some (nV wy), some (.ref t), some (.ref R), x4, x5, x6, x7, none] ∧ Same H H' ∧ H' R = some (.lst zs) ∧ LV (PgR H') zs ((lk.take i).map (pgT wy f)))
      ⟨none, none, none, none, [], rfl, k0, eR0, LV.nil⟩ ?_ ?_ ?_
    · rintro i σ1 H1 _ ⟨_, _, _, _, _, _, k, _⟩
      exact SqT.of (k _ _ ea)
    · rintro i x σ1 H1 H2 hi ⟨x4, x5, x6, x7, zs, rfl, k1, eR, lz⟩ ⟨rfl, hx⟩
      obtain ⟨pg, epg, hpg⟩ := lu.at hx
      obtain ⟨b, rfl, eb⟩ := PgR.iff.mp hpg
      have pok := hok.2 _ (List.mem_of_getElem? epg)
      have p200 := pok.1
      refine ⟨Nat.zero_le _, fun S nS => ?_⟩
      have nSH : H S = none := by
        cases z : H S with
        | none => rfl
        | some o => rw [k1 _ _ z] at nS; cases nS
      have nRS : R ≠ S := ne_of_none eR nS
      have k2 := same_upd (o := .lst []) k1 nS
      have eS2 : upd H2 S (.lst []) S = some (.lst []) := upd_same
      have eR2 := (upd_ne (o := .lst []) nRS).trans eR
      have lz2 : LV (PgR (upd H2 S (.lst []))) zs ((lk.take i).map (pgT wy f)) := lz.mono fun _ _ z => PgR.mn.to z (TK.new (TK.refl _) nS)
      generalize upd H2 S (.lst []) = H3 at k2 eS2 eR2 lz2
      refine ⟨_, rfl, b, rfl, ⟨_, SqT.of (k2 _ _ eb)⟩, ?_⟩
      refine for_it (walk_tup (K := K) (a := b) (xs := pg.map sV)) (fun j σ' H' => ∃ (x6 x7 : Option V), σ' = [some (.ref a), some (nV wy), some (.ref t), some (.ref R), some (.ref b), some (.ref S), x6, x7, none] ∧ Same H H' ∧ H' R = some (.lst zs) ∧ LV (PgR H') zs ((lk.take i).map (pgT wy f)) ∧ H' S = some (.lst (((pg.take j).map (rowT wy f)).map sV)))
        ⟨x6, x7, rfl, k2, eR2, lz2, eS2⟩ ?_ ?_ ?_
      · rintro j σ2 H4 _ ⟨_, _, _, k, _⟩
        exact SqT.of (k _ _ eb)
      · rintro j y σ2 H4 H5 hj ⟨x6, x7, rfl, k4, eR4, lz4, eS4⟩ ⟨rfl, hy⟩
        rw [List.length_map] at hj
        have hr : pg[j]? = some pg[j] := List.getElem?_eq_getElem hj
        rw [List.getElem?_map, hr] at hy
        have hy := (Option.some.inj hy).symm
        subst hy
        have r200 := pok.2 _ (List.getElem_mem hj)
        have tk1 : (pg.take (j + 1)).map (rowT wy f) = (pg.take j).map (rowT wy f) ++ [rowT wy f pg[j]] := by rw [take_one hr, List.map_append]; rfl
        generalize pg[j] = r at hr r200 tk1
        refine ⟨_, rfl, mkS r, rfl, fun D nD => ?_⟩
        have et5 := k4 _ _ et
        refine lc_it walk_str (fun i H' => H' D = some (.lst (((r.take i).map f).map fun c => sV [c])) ∧ Same H5 H') ⟨upd_same, same_upd (Same.refl H5) nD⟩ (fun _ _ _ _ => trivial) ?_ ?_
        · rintro o z H6 H7 ho ⟨eD, k6⟩ ⟨rfl, c, hc, rfl⟩
          have hc : r[o]? = some c := by rw [← mkS_get]; exact hc
          have ho : o < r.length := (List.getElem?_eq_some_iff.mp hc).1
          refine ⟨rfl, _, rfl, t, rfl, .inl ⟨kvs, .inl (k6 _ _ et5)⟩, _, rfl, _, rfl, valV kvs (Sum.inr ⟨#[c]⟩ : Key), .inl ⟨kvs, Sum.inr ⟨#[c]⟩, .inl (k6 _ _ et5), rfl, rfl⟩, ?_⟩
          refine ⟨_, eD, szN (by rw [List.length_map, List.length_map, List.length_take]; omega), ?_, same_mut k6 nD⟩
          rw [show ((valV kvs (Sum.inr ⟨#[c]⟩ : Key)).getD (V.str ⟨#[c]⟩)) = sV [f c] from hf c, take_one hc, List.map_append, List.map_append]
          exact upd_same
        · rintro H6 ⟨eD, k6⟩
          have eD : H6 D = some (.lst ((r.map f).map fun c => sV [c])) := by rw [eD, show (mkS r).cps.size = r.length from rfl, List.take_length]
          have k46 := k4.trans k6
          have nDH : H D = none := by
            cases z : H D with
            | none => rfl
            | some o => rw [k4 _ _ z] at nD; cases nD
          have nRD : R ≠ D := ne_of_none eR4 nD
          have nSD : S ≠ D := ne_of_none eS4 nD
          have lz6 : LV (PgR H6) zs ((lk.take i).map (pgT wy f)) := lz4.mono fun _ _ z => PgR.mn.to z (TK.same k6)
          refine ⟨fun σ' H' => ∃ (x7 : Option V), σ' = [some (.ref a), some (nV wy), some (.ref t), some (.ref R), some (.ref b), some (.ref S), some (sV r), some (.ref D), none] ∧ Same H H' ∧ H' R = some (.lst zs) ∧ LV (PgR H') zs ((lk.take i).map (pgT wy f)) ∧ H' S = some (.lst (((pg.take j).map (rowT wy f)).map sV)) ∧ H' D = some (.lst ((rowT wy f r).map fun c => sV [c])), ?_, ?_⟩
          · refine ⟨_, rfl, rfl, decide (wy = 1), congrArg V.bl (dec_way wy 1), ?_⟩
            by_cases c : wy = 1
            · rw [decide_eq_true c]
              refine ⟨_, rfl, .inl ⟨rfl, _, SqL.of eD⟩, D, _, rfl, rfl, eD, ?_⟩
              refine ⟨none, rfl, same_mut k46 nDH, (upd_ne nRD).trans (k6 _ _ eR4), lz6.mono fun _ _ z => PgR.mn.to z (TK.mut (TK.refl _) eD), (upd_ne nSD).trans (k6 _ _ eS4), ?_⟩
              rw [upd_same, ← List.map_reverse]
              unfold rowT
              rw [if_pos c]
            · rw [decide_eq_false c]
              refine ⟨none, rfl, k46, k6 _ _ eR4, lz6, k6 _ _ eS4, ?_⟩
              unfold rowT
              rw [if_neg c]; exact eD
          · rintro σ3 H7 ⟨_, rfl, k7, eR7, lz7, eS7, eD7⟩
            have rl := rowT_len wy f r
            refine ⟨_, rfl, .inl ⟨rfl, _, SqL.of eS7⟩, ⟨_, rfl⟩, _, rfl, _, D, ((rowT wy f r).map fun c => [c]).map mkS, rfl, rfl, .inl (SqL.of (by rw [eD7, sgs_V])), sgs_sz (by omega), ?_⟩
            rw [join_sgs]
            refine ⟨S, _, _, rfl, rfl, eS7, szN (by rw [List.length_map, List.length_map, List.length_take]; omega), ?_⟩
            refine ⟨_, _, rfl, same_mut k7 nSH, (upd_ne nRS).trans eR7, lz7.mono fun _ _ z => PgR.mn.to z (TK.mut (TK.refl _) eS7), ?_⟩
            rw [tk1, List.map_append]
            exact upd_same
      · rintro σ2 H4 ⟨x6, x7, rfl, k4, eR4, lz4, eS4⟩
        rw [List.length_map, List.take_length] at eS4
        refine ⟨fun σ' H' => ∃ (x6 x7 : Option V), σ' = [some (.ref a), some (nV wy), some (.ref t), some (.ref R), some (.ref b), some (.ref S), x6, x7, none] ∧ Same H H' ∧ H' R = some (.lst zs) ∧ LV (PgR H') zs ((lk.take i).map (pgT wy f)) ∧ H' S = some (.lst ((pgT wy f pg).map sV)), ?_, ?_⟩
        · refine ⟨_, rfl, rfl, decide (wy = 2), congrArg V.bl (dec_way wy 2), ?_⟩
          by_cases c : wy = 2
          · rw [decide_eq_true c]
            refine ⟨_, rfl, .inl ⟨rfl, _, SqL.of eS4⟩, S, _, rfl, rfl, eS4, ?_⟩
            refine ⟨_, _, rfl, same_mut k4 nSH, (upd_ne nRS).trans eR4, lz4.mono fun _ _ z => PgR.mn.to z (TK.mut (TK.refl _) eS4), ?_⟩
            rw [upd_same, ← List.map_reverse]
            unfold pgT
            rw [if_pos c]
          · rw [decide_eq_false c]
            refine ⟨_, _, rfl, k4, eR4, lz4, ?_⟩
            unfold pgT
            rw [if_neg c]; exact eS4
        · rintro σ3 H5 ⟨x6, x7, rfl, k5, eR5, lz5, eS5⟩
          refine ⟨_, rfl, .inl ⟨rfl, _, SqL.of eR5⟩, _, rfl, S, _, rfl, .inl ⟨SqL.of eS5, fun p np => ?_⟩⟩
          have k6 := same_upd (o := .tup ((pgT wy f pg).map sV)) k5 np
          have eR6 : upd H5 p (.tup ((pgT wy f pg).map sV)) R = _ := (upd_ne (ne_of_none eR5 np)).trans eR5
          have lz6 : LV (PgR (upd H5 p (.tup ((pgT wy f pg).map sV)))) zs ((lk.take i).map (pgT wy f)) := lz5.mono fun _ _ z => PgR.mn.to z (TK.new (TK.refl _) np)
          have ep6 : PgR (upd H5 p (.tup ((pgT wy f pg).map sV))) (.ref p) (pgT wy f pg) := PgR.iff.mpr ⟨p, rfl, upd_same⟩
          generalize upd H5 p (.tup ((pgT wy f pg).map sV)) = H6 at k6 eR6 lz6 ep6
          have zl := lz6.1
          have l200 := hok.1
          rw [List.length_map, List.length_take] at zl
          refine ⟨R, _, _, rfl, rfl, eR6, szN (by omega), ?_⟩
          have tm : TK H6 (upd H6 R (.lst (zs ++ [.ref p]))) := TK.mut (TK.refl _) eR6
          refine ⟨_, _, _, _, _, rfl, same_mut k6 nR, upd_same, ?_⟩
          rw [take_one epg, List.map_append]
          exact (lz6.snoc ep6).mono fun _ _ z => PgR.mn.to z tm
    · rintro σ1 H1 ⟨x4, x5, x6, x7, zs, rfl, k1, eR, lz⟩
      rw [lu.1, List.take_length] at lz
      refine ⟨_, rfl, R, _, rfl, .inl ⟨SqL.of eR, fun p np => ?_⟩⟩
      exact q _ _ (same_upd k1 np) (TupR.new PgR.mn lz np)
end
end Vf

set_option Elab.async false
set_option linter.all false
set_option maxRecDepth 100000
set_option maxHeartbeats 4000000
namespace Vf
open PySem PySem.Spec PyProof.Rows L2 TL
/-! covers only -/
theorem RG.covL {g : Rw → Rw} (G : RG g) (l : List Pg) : CovL l (l.map fun p => p.map g) := by
  refine ⟨List.length_map _, fun p hp => ?_⟩
  rw [mapP_at (h := fun p => p.map g) hp]
  refine ⟨List.length_map _, fun r hr => ?_⟩
  rw [map_at hr]
  exact ⟨G.len _, fun x hx => G.cov _ x hx⟩
theorem covRow {r q : Rw} (h : q = wholeN r ∨ q = r) : q.length = r.length ∧ ∀ x, x < r.length → q.getD x 0 = 35 ∨ q.getD x 0 = r.getD x 0 := by
  rcases h with rfl | rfl
  · exact ⟨whole_len r, fun x hx => .inl (whole_cov r x hx)⟩
  · exact ⟨rfl, fun x _ => .inr rfl⟩
theorem paint_covL (B : Pg → Nat → Bool) (l : List Pg) : CovL l (l.map (pgPaint B)) := by
  refine ⟨List.length_map _, fun p hp => ?_⟩
  rw [mapP_at hp]
  refine ⟨pgP_len _ _, fun r hr => covRow ?_⟩
  rw [pgP_at hr]
  split
  · exact .inl rfl
  · exact .inr rfl
theorem draw_cov {k n : Nat} (hk : k < 8) (h2 : k ≠ 2) (l : List Pg) : CovL l (drawN k n l) := by
  match k, hk, h2 with
  | 0, _, _ => exact (wide_RG n).covL l
  | 1, _, _ => exact (even_RG n).covL l
  | 3, _, _ => exact rows_RG.covL l
  | 4, _, _ =>
    show CovL l (l.map blocksN)
    rw [show blocksN = pgPaint (fun p k => hitB p (mkB p k) && !blankN (p.getD k [])) from funext out_eq]
    exact paint_covL _ l
  | 5, _, _ =>
    show CovL l (l.map pagesN)
    rw [show pagesN = pgPaint (fun p _ => p.any hasC) from funext pages_paint]
    exact paint_covL _ l
  | 6, _, _ =>
    refine ⟨bel_len l, fun p hp => ⟨bel_lens hp, fun r hr => covRow ?_⟩⟩
    show ((belowN l).getD p []).getD r [] = wholeN ((l.getD p []).getD r []) ∨ ((belowN l).getD p []).getD r [] = (l.getD p []).getD r []
    rw [bel_at hp hr]
    unfold rowBel
    split
    · exact .inl rfl
    · exact .inr rfl
  | 7, _, _ =>
    show CovL l (l.map fun p => p.map wholeN)
    rw [show (fun p : Pg => p.map wholeN) = pgPaint (fun _ _ => true) from funext all_paint]
    exact paint_covL _ l
  | 2, _, h => exact absurd rfl h
/-! the table of signs -/
def ownL : List Nat := ownS.cps.toList
theorem own_len : ownS.length = 91 ∧ ownL.length = 91 := by decide +kernel
theorem own_nodup : ownL.Nodup := by decide +kernel
theorem own_free : ∀ x ∈ ownL, x ≠ 35 ∧ x ≠ 32 := by decide +kernel
def tbN (s k : Nat) : List (Nat × Nat) := (List.range k).map fun i => (ownL.getD i 0, ownL.getD ((i + s) % 91) 0)
def tbV (tb : List (Nat × Nat)) : List (Key × V) := tb.map fun r => ((Sum.inr ⟨#[r.1]⟩ : Key), sV [r.2])
def tbF (tb : List (Nat × Nat)) (c : Nat) : Nat := ((tb.find? fun r => decide (r.1 = c)).map (·.2)).getD c
theorem key_inj {a b : Nat} (h : (Sum.inr ⟨#[a]⟩ : Key) = Sum.inr ⟨#[b]⟩) : a = b := by
  have e3 : ([a] : List Nat) = [b] := mkS_inj (show mkS [a] = mkS [b] from Sum.inr.inj h)
  injection e3
theorem tb_val (c : Nat) : ∀ tb : List (Nat × Nat), (valV (tbV tb) (Sum.inr ⟨#[c]⟩ : Key)).getD (sV [c]) = sV [tbF tb c]
  | [] => rfl
  | r :: tb => by
    have ih := tb_val c tb
    unfold tbV tbF at ih ⊢
    rw [List.map_cons]
    by_cases h : r.1 = c
    · rw [valV_pos (by rw [h]), List.find?_cons_of_pos (by rw [decide_eq_true h])]; rfl
    · rw [valV_neg (fun z => h (key_inj z)), List.find?_cons_of_neg (by rw [decide_eq_false h]; decide)]
      exact ih
theorem tb_sg {s k : Nat} (hk : k ≤ 91) : SgM (tbF (tbN s k)) := by
  have rows : ∀ r ∈ tbN s k, (r.1 ≠ 35 ∧ r.1 ≠ 32) ∧ (r.2 ≠ 35 ∧ r.2 ≠ 32) := fun r hr => by
    obtain ⟨i, hi, rfl⟩ := List.mem_map.mp hr
    have hi := List.mem_range.mp hi
    have ol := own_len.2
    exact ⟨own_free _ (getD_mem (by omega)), own_free _ (getD_mem (by rw [ol]; exact Nat.mod_lt _ (by decide)))⟩
  have fc : ∀ c, tbF (tbN s k) c = c ∧ (∀ r ∈ tbN s k, r.1 ≠ c) ∨ ∃ r ∈ tbN s k, r.1 = c ∧ tbF (tbN s k) c = r.2 := fun c => by
    unfold tbF
    cases e : (tbN s k).find? fun r => decide (r.1 = c) with
    | none =>
      refine .inl ⟨rfl, fun r hr z => ?_⟩
      have := List.find?_eq_none.mp e r hr
      exact this (decide_eq_true z)
    | some r => exact .inr ⟨r, List.mem_of_find?_eq_some e, of_decide_eq_true (List.find?_some (p := fun r : Nat × Nat => decide (r.1 = c)) e), rfl⟩
  refine ⟨?_, fun x hx => ?_, fun x => ⟨fun hx => ?_, fun hx => ?_⟩⟩
  · rcases fc 35 with ⟨h, _⟩ | ⟨r, hr, e, _⟩
    · exact h
    · exact absurd e (rows r hr).1.1
  · rcases fc x with ⟨h, _⟩ | ⟨r, hr, _, e⟩
    · rw [← h, hx]
    · rw [e] at hx; exact absurd hx (rows r hr).2.1
  · rcases fc x with ⟨h, _⟩ | ⟨r, hr, _, e⟩
    · rw [← h, hx]
    · rw [e] at hx; exact absurd hx (rows r hr).2.2
  · rcases fc x with ⟨h, _⟩ | ⟨r, hr, e, _⟩
    · rw [h, hx]
    · exact absurd (e.trans hx) (rows r hr).1.2
theorem tb_put {s k : Nat} (hk : k < 91) : putK (tbV (tbN s k)) (Sum.inr ⟨#[ownL.getD k 0]⟩ : Key) (sV [ownL.getD ((k + s) % 91) 0]) = tbV (tbN s (k + 1)) := by
  unfold putK
  rw [if_neg]
  · unfold tbN tbV
    rw [List.range_succ, List.map_append, List.map_append]; rfl
  · intro z
    obtain ⟨kv, hkv, e⟩ := List.any_eq_true.mp z
    have e := of_decide_eq_true e
    unfold tbV tbN at hkv
    rw [List.map_map] at hkv
    obtain ⟨i, hi, rfl⟩ := List.mem_map.mp hkv
    have hi := List.mem_range.mp hi
    have e : ownL.getD i 0 = ownL.getD k 0 := key_inj e
    have ol := own_len.2
    rw [List.getD_eq_getElem?_getD, List.getD_eq_getElem?_getD, List.getElem?_eq_getElem (show i < ownL.length by omega), List.getElem?_eq_getElem (show k < ownL.length by omega)] at e
    have e : ownL[i] = ownL[k] := e
    exact List.pairwise_iff_getElem.mp own_nodup i k (by omega) (by omega) (by omega) e
theorem own_at {i : Nat} (h : i < 91) : atI ownS.cps.toList ((i : Nat) : Int) = some (ownL.getD i 0) := by
  refine atI_nat ?_
  have ol := own_len.2
  show ownL[i]? = _
  rw [List.getD_eq_getElem?_getD, List.getElem?_eq_getElem (show i < ownL.length by omega)]; rfl
/-! turned looks -/
theorem turn0 (f : Nat → Nat) (l : List Pg) : l.map (pgT 0 f) = lkT (fun r => r.map f) l := rfl
theorem map_id1 (r : Rw) : r.map (fun c => c) = r := List.map_id' r
theorem turn1 (l : List Pg) : l.map (pgT 1 fun c => c) = lkT List.reverse l := by
  unfold lkT
  refine List.map_congr_left fun p _ => ?_
  show p.map (fun r => (r.map fun c => c).reverse) = _
  exact List.map_congr_left fun r _ => by rw [map_id1]
theorem turn2 (l : List Pg) : l.map (pgT 2 fun c => c) = lkR l := by
  unfold lkR
  refine List.map_congr_left fun p _ => ?_
  show (p.map (fun r => r.map fun c => c)).reverse = _
  rw [show (p.map (fun r => r.map fun c => c)) = p from by
    conv => rhs; rw [← List.map_id p]
    exact List.map_congr_left fun r _ => map_id1 r]
theorem draw_turn0 {f : Nat → Nat} (F : SgM f) {k n : Nat} (hk : k < 8) (h2 : k ≠ 2) (l : List Pg) : drawN k n (l.map (pgT 0 f)) = (drawN k n l).map (pgT 0 f) := by
  rw [turn0, turn0]
  exact drawN_turn F.rt hk h2 (fun _ r => F.wide n r) (fun _ r => F.even n r) l
theorem draw_turn1 {k n : Nat} (hk : k < 8) (h2 : k ≠ 2) (h1 : k ≠ 1) (l : List Pg) : drawN k n (l.map (pgT 1 fun c => c)) = (drawN k n l).map (pgT 1 fun c => c) := by
  rw [turn1, turn1]
  exact drawN_turn rev_rt hk h2 (fun _ r => rev_wide n r) (fun z => absurd z h1) l
theorem draw_turn2 {k n : Nat} (hk : k < 8) (h2 : k ≠ 2) (h6 : k ≠ 6) (l : List Pg) : drawN k n (l.map (pgT 2 fun c => c)) = (drawN k n l).map (pgT 2 fun c => c) := by
  rw [turn2, turn2]
  exact drawN_rev hk h2 h6 l
end Vf

set_option Elab.async false
set_option linter.all false
set_option maxRecDepth 100000
set_option maxHeartbeats 4000000
namespace Vf
open PySem PySem.Spec PyProof.Rows L2 TL
section
variable {P : Program} {w : World} {K : PySem.W.Frag} {mg : Str → Option Value} {base : Heap}
theorem ok_same (T : Txt K mg) : FnOk P w K mg base CX0 5 T.a_law_same_turned T.d_law_same_turned ["_law_d", "_law_look", "_law_steps"] spKeeps := by
  have G_law_draw : FnOk P w K mg base CX0 1 T.a_law_draw T.d_law_draw ["_law_d", "_law_many"] spDraw := ok_draw T
  have G_law_own_signs : FnOk P w K mg base CX0 1 T.a_law_own_signs T.d_law_own_signs [] spOwn := ok_own T
  have G_law_turned : FnOk P w K mg base CX0 1 T.a_law_turned T.d_law_turned ["_law_look", "_law_way", "_law_table"] spTurn := ok_turned T
  have G_law_only_covers : FnOk P w K mg base CX0 1 T.a_law_only_covers T.d_law_only_covers ["_law_look", "_law_told"] spCov := ok_cov T
  have G_draw : FnOk P w K mg base CX0 4 T.a_draw T.d_draw ["step", "look"] spDue := ok_drawS T
  have G_law_exact : FnOk P w K mg base CX0 4 T.a_law_exact T.d_law_exact ["_law_told", "_law_due"] (spExact 3) := ok_exact T 3
  refine T.D_law_same_turned.F.ok sc_law_same_turned (fun vs H Q E h => ?_) (fun cdv A outer s H vs Q E hr h => ?_)
  · obtain ⟨d, l, S, lv, lk, svs, sts, rfl, _⟩ := h
    rfl
  · obtain ⟨d, l, S, lv, lk, svs, sts, rfl, hD, hlk, hok, nSd, hS, oS, q⟩ := h
    refine ⟨_, (pss_cons (ps_set (i := 3) sc_law_same_turned.nd rfl (.inl rfl) (pe_call0 G_law_own_signs (hr.mono (by decide)) (by rfl) T.D_law_own_signs.G T.D_law_own_signs.F.kp T.D_law_own_signs.B .nil pass0))
      (pss_cons (ps_set (i := 4) sc_law_same_turned.nd rfl (.inl rfl) (pe_op op_add pe_int (pe_call G_law_draw (hr.mono (by decide)) (by rfl) T.D_law_draw.G T.D_law_draw.F.kp T.D_law_draw.B .nil pass0 (pa_cons (pv 0) (pa_cons (pe_op op_sub (pe_callB call_len_str (by rfl) T.n_len PySem.boot_len (pa_cons (pv 3) pa_nil)) pe_int) pa_nil)))))
      (pss_cons (ps_set (i := 5) sc_law_same_turned.nd rfl (.inl rfl) pe_dnewK)
      (pss_cons (ps_for PassesOwn.never rfl (pi_range1 (by rfl) T.n_range (pa_cons (pe_callB call_len_str (by rfl) T.n_len PySem.boot_len (pa_cons (pv 3) pa_nil)) pa_nil)) (pg_name (i := 6) sc_law_same_turned.nd rfl (.inl rfl)) (pss_one (ps_dput (hu1 hr) (pv 5) (pe_ix ix_str (pv 3) (pv 6) (fun _ _ => rfl)) (pe_ix ix_str (pv 3) (pe_op op_modN (pe_callTy call_int1 (by rfl) T.n_int (by decide +kernel) (pa_cons (pe_op op_add (pv 6) (pv 4)) pa_nil)) (pe_callB call_len_str (by rfl) T.n_len PySem.boot_len (pa_cons (pv 3) pa_nil))) (fun _ _ => rfl)) rfl)))
      (pss_cons (ps_for PassesOwn.never rfl (pi_list (pv 2)) (pg_name (i := 7) sc_law_same_turned.nd rfl (.inl rfl)) (pss_cons (ps_set (i := 8) sc_law_same_turned.nd rfl (.inl rfl) (pe_call G_draw (hr.mono (by decide)) (by rfl) T.D_draw.G T.D_draw.F.kp T.D_draw.B .nil pass0 (pa_cons (pv 7) (pa_cons (pv 1) pa_nil))))
      (pss_cons (ps_if (pt_not (pt_val (pe_call G_law_only_covers (hr.mono (by decide)) (by rfl) T.D_law_only_covers.G T.D_law_only_covers.F.kp T.D_law_only_covers.B .nil pass0 (pa_cons (pv 1) (pa_cons (pv 8) pa_nil))))) (pss_one (ps_ret pe_bl)) pss_nil)
      (pss_cons (ps_if (pt_not (pt_val (pe_call G_law_exact (hr.mono (by decide)) (by rfl) T.D_law_exact.G T.D_law_exact.F.kp T.D_law_exact.B .nil pass0 (pa_cons (pe_call G_draw (hr.mono (by decide)) (by rfl) T.D_draw.G T.D_draw.F.kp T.D_draw.B .nil pass0 (pa_cons (pv 7) (pa_cons (pe_call G_law_turned (hr.mono (by decide)) (by rfl) T.D_law_turned.G T.D_law_turned.F.kp T.D_law_turned.B .nil pass0 (pa_cons (pv 1) (pa_cons pe_int (pa_cons (pv 5) pa_nil)))) pa_nil))) (pa_cons (pe_call G_law_turned (hr.mono (by decide)) (by rfl) T.D_law_turned.G T.D_law_turned.F.kp T.D_law_turned.B .nil pass0 (pa_cons (pv 8) (pa_cons pe_int (pa_cons (pv 5) pa_nil)))) pa_nil))))) (pss_one (ps_ret pe_bl)) pss_nil)
      (Evl.pss_cut (ps_if (PW.pt (pw_and (pt_cmpR op_ne (pe_ix ix_tup (pv 7) pe_int (fun _ _ => rfl)) pe_str (nomark _)) (pw_and1 (pt_not (pt_val (pe_call G_law_exact (hr.mono (by decide)) (by rfl) T.D_law_exact.G T.D_law_exact.F.kp T.D_law_exact.B .nil pass0 (pa_cons (pe_call G_draw (hr.mono (by decide)) (by rfl) T.D_draw.G T.D_draw.F.kp T.D_draw.B .nil pass0 (pa_cons (pv 7) (pa_cons (pe_call G_law_turned (hr.mono (by decide)) (by rfl) T.D_law_turned.G T.D_law_turned.F.kp T.D_law_turned.B .nil pass0 (pa_cons (pv 1) (pa_cons pe_int (pa_cons pe_dnewK pa_nil)))) pa_nil))) (pa_cons (pe_call G_law_turned (hr.mono (by decide)) (by rfl) T.D_law_turned.G T.D_law_turned.F.kp T.D_law_turned.B .nil pass0 (pa_cons (pv 8) (pa_cons pe_int (pa_cons pe_dnewK pa_nil)))) pa_nil)))))))) (pss_one (ps_ret pe_bl)) pss_nil)
      (pss_one (ps_if (PW.pt (pw_and (pt_cmpR op_ne (pe_ix ix_tup (pv 7) pe_int (fun _ _ => rfl)) pe_str (nomark _)) (pw_and1 (pt_not (pt_val (pe_call G_law_exact (hr.mono (by decide)) (by rfl) T.D_law_exact.G T.D_law_exact.F.kp T.D_law_exact.B .nil pass0 (pa_cons (pe_call G_draw (hr.mono (by decide)) (by rfl) T.D_draw.G T.D_draw.F.kp T.D_draw.B .nil pass0 (pa_cons (pv 7) (pa_cons (pe_call G_law_turned (hr.mono (by decide)) (by rfl) T.D_law_turned.G T.D_law_turned.F.kp T.D_law_turned.B .nil pass0 (pa_cons (pv 1) (pa_cons pe_int (pa_cons pe_dnewK pa_nil)))) pa_nil))) (pa_cons (pe_call G_law_turned (hr.mono (by decide)) (by rfl) T.D_law_turned.G T.D_law_turned.F.kp T.D_law_turned.B .nil pass0 (pa_cons (pv 8) (pa_cons pe_int (pa_cons pe_dnewK pa_nil)))) pa_nil)))))))) (pss_one (ps_ret pe_bl)) pss_nil)))))))
      (pss_one (ps_ret pe_bl))))))), ?_⟩
    have ol := own_len.1
    have osz : ownS.length ≤ sizeLine := by rw [ol]; exact big_ok (by omega)
    refine ⟨rfl, _, rfl, _, rfl, ownS, rfl, osz, _, _, rfl, rfl, d, l, _, rfl, hD, by omega, fun H1 r k1 D1 a1 a2 => ?_⟩
    obtain ⟨sh, rfl, hsh⟩ := draw_nt (by omega) a1 a2
    refine ⟨_, _, rfl, rfl, fun t nt => ?_⟩
    have ndt := D1.nd nt
    have t1 := kpTup hD k1
    have hlk1 := LkR.mn.to hlk t1
    have hS1 := hS.kp hD nSd k1
    have s2 := same_upd (o := .dK []) (Same.refl H1) nt
    have et2 : upd H1 t (.dK []) t = some (.dK (tbV (tbN (sh + 1) 0))) := upd_same
    generalize upd H1 t (.dK []) = H2 at s2 et2
    refine ⟨_, rfl, ownS, rfl, osz, (91 : Nat), by rw [ol], by omega, by omega, ?_⟩
    rw [toNat_k]
    refine for_it walk_rangeN (fun i σ' H' => ∃ x6 : Option V, σ' = [some (.ref d), some lv, some (.ref S), some (.str ownS), some (nV (sh + 1)), some (.ref t), x6, none, none] ∧ Same H1 H' ∧ H' t = some (.dK (tbV (tbN (sh + 1) i))))
      ⟨none, by show [some (V.ref d), some lv, some (V.ref S), some (V.str ownS), some (V.int (1 + (sh : Int))), some (V.ref t), none, none, none] = _; rw [add1], s2, et2⟩ (fun _ _ _ _ _ => trivial) ?_ ?_
    · rintro i x σ1 H3 H4 hi ⟨x6, rfl, k3, et3⟩ ⟨rfl, rfl⟩
      have em : (((i : Nat) : Int) + ((sh + 1 : Nat) : Int)).fmod ((ownS.length : Nat) : Int) = (((i + (sh + 1)) % 91 : Nat) : Int) := by
        rw [ol, show ((i : Nat) : Int) + ((sh + 1 : Nat) : Int) = ((i + (sh + 1) : Nat) : Int) by omega, Int.fmod_eq_emod_of_nonneg _ (by omega)]; rfl
      refine ⟨_, rfl, _, rfl, _, rfl, _, _, rfl, rfl, .inl ⟨_, rfl, _, rfl, ownS, rfl, osz, _, _, rfl, rfl, by show ((ownS.length : Nat) : Int) ≠ 0; omega, ownS, (((i + (sh + 1)) % 91 : Nat) : Int), _, rfl, congrArg V.int em, osz, own_at (Nat.mod_lt _ (by decide)), ?_⟩⟩
      refine ⟨_, rfl, _, rfl, _, rfl, ownS, ((i : Nat) : Int), _, rfl, rfl, osz, own_at hi, t, _, rfl, DPut.k (k := Sum.inr ⟨#[ownL.getD i 0]⟩) et3 (szN (by unfold tbV tbN; rw [List.length_map, List.length_map, List.length_range]; omega)), ?_⟩
      refine ⟨_, rfl, same_mut k3 nt, ?_⟩
      rw [upd_same]
      exact congrArg (fun z => some (HO.dK z)) (tb_put hi)
    · rintro σ1 H3 ⟨x6, rfl, k3, et3⟩
      have hlk3 := LkR.mn.to hlk1 (TK.same k3)
      have hS3 := hS1.same k3
      have tf := tb_val
      have F := tb_sg (s := sh + 1) (k := 91) (Nat.le_refl _)
      generalize tbN (sh + 1) 91 = tb at et3 F
      refine ⟨_, rfl, S, rfl, ⟨_, SqL.of hS3.at_⟩, ?_⟩
      refine for_it (walk_list (K := K) (a := S) (xs := svs)) (fun i σ' H' => ∃ x7 x8 : Option V, σ' = [some (.ref d), some lv, some (.ref S), some (.str ownS), some (nV (sh + 1)), some (.ref t), x6, x7, x8] ∧ Same H3 H') ⟨none, none, rfl, Same.refl _⟩ ?_ ?_ ?_
      · rintro i σ2 H4 _ ⟨_, _, _, k⟩
        exact SqL.of (k _ _ hS3.at_)
      · rintro i x σ2 H4 H5 hi ⟨x7, x8, rfl, s5⟩ ⟨rfl, hx⟩
        obtain ⟨⟨k, n⟩, est, hst⟩ := hS3.lv.at hx
        obtain ⟨os, os2⟩ := oS.2 _ (List.mem_of_getElem? est)
        have os1 : k < 8 := os.1
        have os2 : k ≠ 2 := os2
        have hst5 := StpR.mn.to hst (TK.same s5)
        have hlk5 := LkR.mn.to hlk3 (TK.same s5)
        have dok := drawN_ok (n := n) os1 hok
        refine ⟨_, rfl, _, rfl, x, lv, (k, n), lk, rfl, hst5, os, hlk5, hok, fun H6 u6 s6 hu6 => ?_⟩
        have hu6 : LkR H6 u6 (drawN k n lk) := hu6
        have s36 := s5.trans s6
        refine ⟨_, rfl, _, rfl, lv, u6, lk, _, rfl, LkR.mn.to hlk3 (TK.same s36), hu6, hok, draw_cov os1 os2 lk, true, rfl, ?_⟩
        -- signs for signs
        refine ⟨_, rfl, _, rfl, _, rfl, lv, 0, t, lk, tbV tb, tbF tb, rfl, LkR.mn.to hlk3 (TK.same s36), hok, s36 _ _ et3, fun c => tf c tb, fun H7 u7 s7 hu7 => ?_⟩
        have s37 := s36.trans s7
        refine ⟨x, u7, (k, n), _, rfl, StpR.mn.to hst (TK.same s37), os, hu7, pgT_ok hok, fun H8 u8 s8 hu8 => ?_⟩
        have hu8 : LkR H8 u8 (drawN k n (lk.map (pgT 0 (tbF tb)))) := hu8
        rw [draw_turn0 F os1 os2] at hu8
        have s38 := s37.trans s8
        have hu68 := LkR.mn.to hu6 (TK.same (s7.trans s8))
        refine ⟨_, rfl, _, rfl, u6, 0, t, _, tbV tb, tbF tb, rfl, hu68, dok, s38 _ _ et3, fun c => tf c tb, fun H9 u9 s9 hu9 => ?_⟩
        refine ⟨_, _, rfl, lk_eqv (LkR.mn.to hu8 (TK.same s9)) hu9 (pgT_ok dok), true, rfl, ?_⟩
        have s39 := s38.trans s9
        have hu69 := LkR.mn.to hu68 (TK.same s9)
        obtain ⟨sa, rfl, es⟩ := hst
        have e0 : ∃ tl, H3 sa = some (.tup (V.str (nmS k) :: tl)) := by
          by_cases c : k < 3
          · exact ⟨_, by rw [es]; show some (HO.tup (if k < 3 then _ else _)) = _; rw [if_pos c]⟩
          · exact ⟨_, by rw [es]; show some (HO.tup (if k < 3 then _ else _)) = _; rw [if_neg c]⟩
        obtain ⟨tl, e0⟩ := e0
        have hst : StpR H3 (.ref sa) (k, n) := ⟨sa, rfl, es⟩
        refine ⟨fun σ' H' => ∃ _x8 : Option V, σ' = [some (.ref d), some lv, some (.ref S), some (.str ownS), some (nV (sh + 1)), some (.ref t), x6, some (.ref sa), some u6] ∧ Same H3 H' ∧ LkR H' u6 (drawN k n lk), ?_, ?_⟩
        · refine ⟨_, rfl, sa, _, _, _, rfl, rfl, SqT.of (s39 _ _ e0), atI_nat (j := 0) rfl, rfl, !decide (k = 1), congrArg V.bl (congrArg (!·) (nm_eq k os1 1 (by decide))), ?_⟩
          by_cases ce : k = 1
          · rw [decide_eq_true ce]
            exact ⟨none, rfl, s39, hu69⟩
          · rw [decide_eq_false ce]
            refine ⟨_, rfl, _, rfl, fun tae nae => ?_⟩
            have sae := same_upd (o := .dK []) (Same.refl H9) nae
            have etae : upd H9 tae (.dK []) tae = some (.dK []) := upd_same
            generalize upd H9 tae (.dK []) = G1e at sae etae
            have z1e := s39.trans sae
            refine ⟨lv, 1, tae, lk, [], fun c => c, rfl, LkR.mn.to hlk3 (TK.same z1e), hok, etae, fun c => rfl, fun G2e w2e y2e hw2e => ?_⟩
            have z2e := z1e.trans y2e
            refine ⟨.ref sa, w2e, (k, n), _, rfl, StpR.mn.to hst (TK.same z2e), os, hw2e, pgT_ok hok, fun G3e w3e y3e hw3e => ?_⟩
            have hw3e : LkR G3e w3e (drawN k n (lk.map (pgT 1 fun c => c))) := hw3e
            rw [draw_turn1 os1 os2 ce] at hw3e
            have z3e := z2e.trans y3e
            have hv3e := LkR.mn.to hu69 (TK.same (sae.trans (y2e.trans y3e)))
            refine ⟨_, rfl, fun tbe nbe => ?_⟩
            have sbe := same_upd (o := .dK []) (Same.refl G3e) nbe
            have etbe : upd G3e tbe (.dK []) tbe = some (.dK []) := upd_same
            generalize upd G3e tbe (.dK []) = G4e at sbe etbe
            refine ⟨u6, 1, tbe, _, [], fun c => c, rfl, LkR.mn.to hv3e (TK.same sbe), dok, etbe, fun c => rfl, fun G5e w5e y5e hw5e => ?_⟩
            have z5e := z3e.trans (sbe.trans y5e)
            exact ⟨_, _, rfl, lk_eqv (LkR.mn.to hw3e (TK.same (sbe.trans y5e))) hw5e (pgT_ok dok), true, rfl, none, rfl, z5e, LkR.mn.to hv3e (TK.same (sbe.trans y5e))⟩
        · rintro σ3 H10 ⟨_, rfl, s310, hu610⟩
          refine ⟨_, rfl, sa, _, _, _, rfl, rfl, SqT.of (s310 _ _ e0), atI_nat (j := 0) rfl, rfl, !decide (k = 6), congrArg V.bl (congrArg (!·) (nm_eq k os1 6 (by decide))), ?_⟩
          by_cases cb : k = 6
          · rw [decide_eq_true cb]
            exact ⟨_, _, rfl, s310⟩
          · rw [decide_eq_false cb]
            refine ⟨_, rfl, _, rfl, fun tab nab => ?_⟩
            have sab := same_upd (o := .dK []) (Same.refl H10) nab
            have etab : upd H10 tab (.dK []) tab = some (.dK []) := upd_same
            generalize upd H10 tab (.dK []) = G1b at sab etab
            have z1b := s310.trans sab
            refine ⟨lv, 2, tab, lk, [], fun c => c, rfl, LkR.mn.to hlk3 (TK.same z1b), hok, etab, fun c => rfl, fun G2b w2b y2b hw2b => ?_⟩
            have z2b := z1b.trans y2b
            refine ⟨.ref sa, w2b, (k, n), _, rfl, StpR.mn.to hst (TK.same z2b), os, hw2b, pgT_ok hok, fun G3b w3b y3b hw3b => ?_⟩
            have hw3b : LkR G3b w3b (drawN k n (lk.map (pgT 2 fun c => c))) := hw3b
            rw [draw_turn2 os1 os2 cb] at hw3b
            have z3b := z2b.trans y3b
            have hv3b := LkR.mn.to hu610 (TK.same (sab.trans (y2b.trans y3b)))
            refine ⟨_, rfl, fun tbb nbb => ?_⟩
            have sbb := same_upd (o := .dK []) (Same.refl G3b) nbb
            have etbb : upd G3b tbb (.dK []) tbb = some (.dK []) := upd_same
            generalize upd G3b tbb (.dK []) = G4b at sbb etbb
            refine ⟨u6, 2, tbb, _, [], fun c => c, rfl, LkR.mn.to hv3b (TK.same sbb), dok, etbb, fun c => rfl, fun G5b w5b y5b hw5b => ?_⟩
            have z5b := z3b.trans (sbb.trans y5b)
            exact ⟨_, _, rfl, lk_eqv (LkR.mn.to hw3b (TK.same (sbb.trans y5b))) hw5b (pgT_ok dok), true, rfl, _, _, rfl, z5b⟩
      · rintro σ2 H4 ⟨x7, x8, rfl, s4⟩
        have sAll := k3.trans s4
        exact q _ (k1.trans (kpS sAll)) (D1.keep sAll)
end
end Vf

set_option Elab.async false
set_option linter.all false
set_option maxRecDepth 100000
set_option maxHeartbeats 4000000
namespace Vf
open PySem PySem.Spec PyProof.Rows L2 TL
/-- a kind and the kinds that it swallows -/
def EntR (H : Hp) (v : V) (e : Nat × List (Nat × Nat)) : Prop := ∃ (t : Addr) (q : V) (r : Addr) (us : List V), v = .ref t ∧ H t = some (.tup [q, .ref r]) ∧ StpR H q (e.1, 1) ∧ H r = some (.lst us) ∧ LV (StpR H) us e.2
theorem EntR.same {H H' : Hp} {v : V} {e : Nat × List (Nat × Nat)} (h : EntR H v e) (s : Same H H') : EntR H' v e := by
  obtain ⟨t, q, r, us, h1, h2, h3, h4, h5⟩ := h
  exact ⟨t, q, r, us, h1, s _ _ h2, StpR.mn.to h3 (TK.same s), s _ _ h4, h5.mono fun _ _ z => StpR.mn.to z (TK.same s)⟩
theorem ent_new {H : Hp} {fus : List V} {fin : List (Nat × Nat)} {C j : Nat} {q r t : Addr} {x : V} {hi : Int} (lF : LV (StpR H) fus fin) (hC : 3 ≤ C) (ex : x = V.str (nmS C)) (eh : hi = ((j : Nat) : Int)) (nq : H q = none) (nr : upd H q (.tup [x]) r = none) (nt : upd (upd H q (.tup [x])) r (.lst (cutV fus none (some hi))) t = none) :
    Same H (upd (upd (upd H q (.tup [x])) r (.lst (cutV fus none (some hi)))) t (.tup [.ref q, .ref r])) ∧ EntR (upd (upd (upd H q (.tup [x])) r (.lst (cutV fus none (some hi)))) t (.tup [.ref q, .ref r])) (.ref t) (C, fin.take j) := by
  subst eh
  rw [cut_take] at nt ⊢
  have s1 := same_upd (o := .tup [x]) (Same.refl H) nq
  have s2 := same_upd (o := .lst (fus.take j)) (Same.refl (upd H q (.tup [x]))) nr
  have s3 := same_upd (o := .tup [.ref q, .ref r]) (Same.refl (upd (upd H q (.tup [x])) r (.lst (fus.take j)))) nt
  have st : StpR (upd H q (.tup [x])) (.ref q) (C, 1) := stp_1 hC ex
  refine ⟨s1.trans (s2.trans s3), t, .ref q, r, fus.take j, rfl, upd_same, StpR.mn.to st (TK.same (s2.trans s3)), s3 _ _ upd_same, (lF.mono fun _ _ z => StpR.mn.to z (TK.same (s1.trans (s2.trans s3)))).takeN j⟩
theorem ent_all {H : Hp} {F : Addr} {fus : List V} {fin : List (Nat × Nat)} {C : Nat} {q t : Addr} {x : V} (eF : H F = some (.lst fus)) (lF : LV (StpR H) fus fin) (hC : 3 ≤ C) (ex : x = V.str (nmS C)) (nq : H q = none) (nt : upd H q (.tup [x]) t = none) :
    Same H (upd (upd H q (.tup [x])) t (.tup [.ref q, .ref F])) ∧ EntR (upd (upd H q (.tup [x])) t (.tup [.ref q, .ref F])) (.ref t) (C, fin) := by
  have s1 := same_upd (o := .tup [x]) (Same.refl H) nq
  have s3 := same_upd (o := .tup [.ref q, .ref F]) (Same.refl (upd H q (.tup [x]))) nt
  have st : StpR (upd H q (.tup [x])) (.ref q) (C, 1) := stp_1 hC ex
  exact ⟨s1.trans s3, t, .ref q, F, fus, rfl, upd_same, StpR.mn.to st (TK.same s3), (s1.trans s3) _ _ eF, lF.mono fun _ _ z => StpR.mn.to z (TK.same (s1.trans s3))⟩
def finN (a b : Nat) : List (Nat × Nat) := [(0, a), (1, b), (3, 1), (4, 1), (5, 1), (6, 1)]
def entN (a b : Nat) : List (Nat × List (Nat × Nat)) := [(3, (finN a b).take 2), (4, (finN a b).take 3), (5, (finN a b).take 4), (6, (finN a b).take 3), (7, finN a b)]
theorem ent_ok {a b : Nat} (a1 : 1 ≤ a) (a2 : a ≤ 1000) (b1 : 1 ≤ b) (b2 : b ≤ 1000) : ∀ e ∈ entN a b, (e.1 = 3 ∨ e.1 = 4 ∨ e.1 = 5 ∨ e.1 = 6 ∨ e.1 = 7) ∧ ∀ st ∈ e.2, st.1 ∈ finer e.1 ∧ StOk st := by
  intro e he
  simp only [entN, finN, List.take, List.mem_cons, List.not_mem_nil, or_false] at he
  rcases he with rfl | rfl | rfl | rfl | rfl
  all_goals
    refine ⟨by simp, fun st hst => ?_⟩
    simp only [finN, List.take, List.mem_cons, List.not_mem_nil, or_false] at hst
  · rcases hst with rfl | rfl <;> exact ⟨by simp [finer], by constructor <;> simp <;> omega⟩
  · rcases hst with rfl | rfl | rfl <;> exact ⟨by simp [finer], by constructor <;> simp <;> omega⟩
  · rcases hst with rfl | rfl | rfl | rfl <;> exact ⟨by simp [finer], by constructor <;> simp <;> omega⟩
  · rcases hst with rfl | rfl | rfl <;> exact ⟨by simp [finer], by constructor <;> simp <;> omega⟩
  · rcases hst with rfl | rfl | rfl | rfl | rfl | rfl <;> exact ⟨by simp [finer], by constructor <;> simp <;> omega⟩
section
variable {P : Program} {w : World} {K : PySem.W.Frag} {mg : Str → Option Value} {base : Heap}
def spSwal : Sp := fun vs H Q _ => ∃ (lv wv ev : V) (lk : List Pg) (a b : Nat), vs = [lv, wv, ev] ∧ LkR H lv lk ∧ LkOk lk ∧ StpR H wv (0, a) ∧ StpR H ev (1, b) ∧ (1 ≤ a ∧ a ≤ 1000 ∧ 1 ≤ b ∧ b ≤ 1000) ∧ ∀ H', Same H H' → Q (.bl true) H'
theorem ok_swal (T : Txt K mg) : FnOk P w K mg base CX0 5 T.a_law_swallows T.d_law_swallows ["_law_look", "_law_wide", "_law_even"] spSwal := by
  have G_draw : FnOk P w K mg base CX0 4 T.a_draw T.d_draw ["step", "look"] spDue := ok_drawS T
  have G_law_exact : FnOk P w K mg base CX0 4 T.a_law_exact T.d_law_exact ["_law_told", "_law_due"] (spExact 3) := ok_exact T 3
  refine T.D_law_swallows.F.ok sc_law_swallows (fun vs H Q E h => ?_) (fun cdv A outer s H vs Q E hr h => ?_)
  · obtain ⟨lv, wv, ev, lk, a, b, rfl, _⟩ := h
    rfl
  · obtain ⟨lv, wv, ev, lk, a, b, rfl, hlk, hok, hw, he, ⟨a1, a2, b1, b2⟩, q⟩ := h
    refine ⟨_, (pss_cons (ps_set (i := 3) sc_law_swallows.nd rfl (.inl rfl) (pe_lst (pa_cons (pv 1) (pa_cons (pv 2) (pa_cons (pe_tup (pa_cons pe_str pa_nil)) (pa_cons (pe_tup (pa_cons pe_str pa_nil)) (pa_cons (pe_tup (pa_cons pe_str pa_nil)) (pa_cons (pe_tup (pa_cons pe_str pa_nil)) pa_nil))))))))
      (pss_cons (ps_set (i := 4) sc_law_swallows.nd rfl (.inl rfl) (pe_lst (pa_cons (pe_tup (pa_cons (pe_tup (pa_cons pe_str pa_nil)) (pa_cons (pe_slice sl_list (pv 3) po_none (po_some pe_int)) pa_nil))) (pa_cons (pe_tup (pa_cons (pe_tup (pa_cons pe_str pa_nil)) (pa_cons (pe_slice sl_list (pv 3) po_none (po_some pe_int)) pa_nil))) (pa_cons (pe_tup (pa_cons (pe_tup (pa_cons pe_str pa_nil)) (pa_cons (pe_slice sl_list (pv 3) po_none (po_some pe_int)) pa_nil))) (pa_cons (pe_tup (pa_cons (pe_tup (pa_cons pe_str pa_nil)) (pa_cons (pe_slice sl_list (pv 3) po_none (po_some pe_int)) pa_nil))) (pa_cons (pe_tup (pa_cons (pe_tup (pa_cons pe_str pa_nil)) (pa_cons (pv 3) pa_nil))) pa_nil)))))))
      (pss_cons (ps_for PassesOwn.never rfl (pi_list (pv 4)) (pg_tup (by rfl) (pgs_cons (pg_name (i := 5) sc_law_swallows.nd rfl (.inl rfl)) (pgs_cons (pg_name (i := 6) sc_law_swallows.nd rfl (.inl rfl)) pgs_nil))) (pss_cons (ps_set (i := 7) sc_law_swallows.nd rfl (.inl rfl) (pe_call G_draw (hr.mono (by decide)) (by rfl) T.D_draw.G T.D_draw.F.kp T.D_draw.B .nil pass0 (pa_cons (pv 5) (pa_cons (pv 0) pa_nil))))
      (pss_cons (ps_if (pt_not (pt_val (pe_call G_law_exact (hr.mono (by decide)) (by rfl) T.D_law_exact.G T.D_law_exact.F.kp T.D_law_exact.B .nil pass0 (pa_cons (pe_call G_draw (hr.mono (by decide)) (by rfl) T.D_draw.G T.D_draw.F.kp T.D_draw.B .nil pass0 (pa_cons (pv 5) (pa_cons (pv 7) pa_nil))) (pa_cons (pv 7) pa_nil))))) (pss_one (ps_ret pe_bl)) pss_nil)
      (pss_one (ps_for PassesOwn.never rfl (pi_list (pv 6)) (pg_name (i := 8) sc_law_swallows.nd rfl (.inl rfl)) (pss_one (ps_if (PW.pt (pw_or (pt_not (pt_val (pe_call G_law_exact (hr.mono (by decide)) (by rfl) T.D_law_exact.G T.D_law_exact.F.kp T.D_law_exact.B .nil pass0 (pa_cons (pe_call G_draw (hr.mono (by decide)) (by rfl) T.D_draw.G T.D_draw.F.kp T.D_draw.B .nil pass0 (pa_cons (pv 5) (pa_cons (pe_call G_draw (hr.mono (by decide)) (by rfl) T.D_draw.G T.D_draw.F.kp T.D_draw.B .nil pass0 (pa_cons (pv 8) (pa_cons (pv 0) pa_nil))) pa_nil))) (pa_cons (pv 7) pa_nil))))) (pw_or1 (pt_not (pt_val (pe_call G_law_exact (hr.mono (by decide)) (by rfl) T.D_law_exact.G T.D_law_exact.F.kp T.D_law_exact.B .nil pass0 (pa_cons (pe_call G_draw (hr.mono (by decide)) (by rfl) T.D_draw.G T.D_draw.F.kp T.D_draw.B .nil pass0 (pa_cons (pv 8) (pa_cons (pv 7) pa_nil))) (pa_cons (pv 7) pa_nil)))))))) (pss_one (ps_ret pe_bl)) pss_nil)))))))
      (pss_one (ps_ret (pe_call G_law_exact (hr.mono (by decide)) (by rfl) T.D_law_exact.G T.D_law_exact.F.kp T.D_law_exact.B .nil pass0 (pa_cons (pe_call G_draw (hr.mono (by decide)) (by rfl) T.D_draw.G T.D_draw.F.kp T.D_draw.B .nil pass0 (pa_cons (pv 2) (pa_cons (pe_call G_draw (hr.mono (by decide)) (by rfl) T.D_draw.G T.D_draw.F.kp T.D_draw.B .nil pass0 (pa_cons (pv 2) (pa_cons (pv 0) pa_nil))) pa_nil))) (pa_cons (pe_call G_draw (hr.mono (by decide)) (by rfl) T.D_draw.G T.D_draw.F.kp T.D_draw.B .nil pass0 (pa_cons (pv 2) (pa_cons (pv 0) pa_nil))) pa_nil)))))))), ?_⟩
    have one : (1 : Nat) ≤ sizeLine := big_ok (by omega)
    have two : (2 : Nat) ≤ sizeLine := big_ok (by omega)
    refine ⟨_, rfl, _, rfl, one, fun p1 np1 => ⟨one, fun p2 np2 => ⟨one, fun p3 np3 => ⟨one, fun p4 np4 => ⟨big_ok (by show 6 ≤ _; omega), fun F nF => ?_⟩⟩⟩⟩⟩
    have s1 := same_upd (o := .tup [V.str ("rows" : Str)]) (Same.refl H) np1
    have st1 : StpR (upd H p1 (.tup [V.str ("rows" : Str)])) (.ref p1) (3, 1) := stp_1 (by decide) rfl
    generalize upd H p1 (.tup [V.str ("rows" : Str)]) = H1 at s1 st1 np2 np3 np4 nF
    have s2 := same_upd (o := .tup [V.str ("blocks" : Str)]) (Same.refl H1) np2
    have st2 : StpR (upd H1 p2 (.tup [V.str ("blocks" : Str)])) (.ref p2) (4, 1) := stp_1 (by decide) rfl
    generalize upd H1 p2 (.tup [V.str ("blocks" : Str)]) = H2 at s2 st2 np3 np4 nF
    have s3 := same_upd (o := .tup [V.str ("pages" : Str)]) (Same.refl H2) np3
    have st3 : StpR (upd H2 p3 (.tup [V.str ("pages" : Str)])) (.ref p3) (5, 1) := stp_1 (by decide) rfl
    generalize upd H2 p3 (.tup [V.str ("pages" : Str)]) = H3 at s3 st3 np4 nF
    have s4 := same_upd (o := .tup [V.str ("below" : Str)]) (Same.refl H3) np4
    have st4 : StpR (upd H3 p4 (.tup [V.str ("below" : Str)])) (.ref p4) (6, 1) := stp_1 (by decide) rfl
    generalize upd H3 p4 (.tup [V.str ("below" : Str)]) = H4 at s4 st4 nF
    have s5 := same_upd (o := .lst [wv, ev, .ref p1, .ref p2, .ref p3, .ref p4]) (Same.refl H4) nF
    have eF : upd H4 F (.lst [wv, ev, .ref p1, .ref p2, .ref p3, .ref p4]) F = _ := upd_same
    have s45 := s4.trans s5
    have s35 := s3.trans s45
    have s25 := s2.trans s35
    have s15 := s1.trans s25
    have lF : LV (StpR (upd H4 F (.lst [wv, ev, .ref p1, .ref p2, .ref p3, .ref p4]))) [wv, ev, .ref p1, .ref p2, .ref p3, .ref p4] (finN a b) :=
      (((((LV.nil.snoc (R := StpR _) (StpR.mn.to hw (TK.same s15))).snoc (R := StpR _) (StpR.mn.to he (TK.same s15))).snoc (R := StpR _) (StpR.mn.to st1 (TK.same s25))).snoc (R := StpR _) (StpR.mn.to st2 (TK.same s35))).snoc (R := StpR _) (StpR.mn.to st3 (TK.same s45))).snoc (R := StpR _) (StpR.mn.to st4 (TK.same s5))
    generalize upd H4 F (.lst [wv, ev, .ref p1, .ref p2, .ref p3, .ref p4]) = H5 at s15 eF lF
    generalize [wv, ev, .ref p1, .ref p2, .ref p3, .ref p4] = fus at eF lF
    refine ⟨one, fun q1 nq1 => ?_⟩
    have sx1 := same_upd (o := .tup [V.str ("rows" : Str)]) (Same.refl H5) nq1
    refine ⟨_, rfl, 2, rfl, F, fus, rfl, SqL.of (sx1 _ _ eF), fun r1 nr1 => ⟨two, fun t1 nt1 => ?_⟩⟩
    obtain ⟨y1, e1⟩ := ent_new (C := 3) (j := 2) (hi := 2) (x := V.str ("rows" : Str)) lF (by decide) rfl rfl nq1 nr1 nt1
    generalize upd (upd (upd H5 q1 (.tup [V.str ("rows" : Str)])) r1 (.lst (cutV fus none (some 2)))) t1 (.tup [.ref q1, .ref r1]) = H6 at y1 e1
    have eF := y1 _ _ eF
    have lF := lF.mono fun _ _ z => StpR.mn.to z (TK.same y1)
    refine ⟨one, fun q2 nq2 => ?_⟩
    have sx2 := same_upd (o := .tup [V.str ("blocks" : Str)]) (Same.refl H6) nq2
    refine ⟨_, rfl, 3, rfl, F, fus, rfl, SqL.of (sx2 _ _ eF), fun r2 nr2 => ⟨two, fun t2 nt2 => ?_⟩⟩
    obtain ⟨y2, e2⟩ := ent_new (C := 4) (j := 3) (hi := 3) (x := V.str ("blocks" : Str)) lF (by decide) rfl rfl nq2 nr2 nt2
    generalize upd (upd (upd H6 q2 (.tup [V.str ("blocks" : Str)])) r2 (.lst (cutV fus none (some 3)))) t2 (.tup [.ref q2, .ref r2]) = H7 at y2 e2
    have eF := y2 _ _ eF
    have lF := lF.mono fun _ _ z => StpR.mn.to z (TK.same y2)
    refine ⟨one, fun q3 nq3 => ?_⟩
    have sx3 := same_upd (o := .tup [V.str ("pages" : Str)]) (Same.refl H7) nq3
    refine ⟨_, rfl, 4, rfl, F, fus, rfl, SqL.of (sx3 _ _ eF), fun r3 nr3 => ⟨two, fun t3 nt3 => ?_⟩⟩
    obtain ⟨y3, e3⟩ := ent_new (C := 5) (j := 4) (hi := 4) (x := V.str ("pages" : Str)) lF (by decide) rfl rfl nq3 nr3 nt3
    generalize upd (upd (upd H7 q3 (.tup [V.str ("pages" : Str)])) r3 (.lst (cutV fus none (some 4)))) t3 (.tup [.ref q3, .ref r3]) = H8 at y3 e3
    have eF := y3 _ _ eF
    have lF := lF.mono fun _ _ z => StpR.mn.to z (TK.same y3)
    refine ⟨one, fun q4 nq4 => ?_⟩
    have sx4 := same_upd (o := .tup [V.str ("below" : Str)]) (Same.refl H8) nq4
    refine ⟨_, rfl, 3, rfl, F, fus, rfl, SqL.of (sx4 _ _ eF), fun r4 nr4 => ⟨two, fun t4 nt4 => ?_⟩⟩
    obtain ⟨y4, e4⟩ := ent_new (C := 6) (j := 3) (hi := 3) (x := V.str ("below" : Str)) lF (by decide) rfl rfl nq4 nr4 nt4
    generalize upd (upd (upd H8 q4 (.tup [V.str ("below" : Str)])) r4 (.lst (cutV fus none (some 3)))) t4 (.tup [.ref q4, .ref r4]) = H9 at y4 e4
    have eF := y4 _ _ eF
    have lF := lF.mono fun _ _ z => StpR.mn.to z (TK.same y4)
    refine ⟨one, fun q5 nq5 => ?_⟩
    refine ⟨_, rfl, two, fun t5 nt5 => ?_⟩
    obtain ⟨y5, e5⟩ := ent_all (C := 7) (x := V.str ("all" : Str)) eF lF (by decide) rfl nq5 nt5
    generalize upd (upd H9 q5 (.tup [V.str ("all" : Str)])) t5 (.tup [.ref q5, .ref F]) = H10 at y5 e5
    refine ⟨big_ok (by show 5 ≤ _; omega), fun B nB => ?_⟩
    have sB := same_upd (o := .lst [.ref t1, .ref t2, .ref t3, .ref t4, .ref t5]) (Same.refl H10) nB
    have eB : upd H10 B (.lst [.ref t1, .ref t2, .ref t3, .ref t4, .ref t5]) B = _ := upd_same
    have y4B := y5.trans sB
    have y3B := y4.trans y4B
    have y2B := y3.trans y3B
    have lB : LV (EntR (upd H10 B (.lst [.ref t1, .ref t2, .ref t3, .ref t4, .ref t5]))) [.ref t1, .ref t2, .ref t3, .ref t4, .ref t5] (entN a b) :=
      ((((LV.nil.snoc (R := EntR _) (e1.same (y2.trans y2B))).snoc (R := EntR _) (e2.same y2B)).snoc (R := EntR _) (e3.same y3B)).snoc (R := EntR _) (e4.same y4B)).snoc (R := EntR _) (e5.same sB)
    have s1B := s15.trans (y1.trans (y2.trans y2B))
    generalize upd H10 B (.lst [.ref t1, .ref t2, .ref t3, .ref t4, .ref t5]) = H11 at eB lB s1B
    generalize [V.ref t1, .ref t2, .ref t3, .ref t4, .ref t5] = bus at eB lB
    have eok := ent_ok a1 a2 b1 b2
    generalize entN a b = ens at lB eok
    have hlk := LkR.mn.to hlk (TK.same s1B)
    have he := StpR.mn.to he (TK.same s1B)
    refine ⟨_, rfl, B, rfl, ⟨_, SqL.of eB⟩, ?_⟩
    refine for_it (walk_list (K := K) (a := B) (xs := bus)) (fun i σ' H' => ∃ x5 x6 x7 x8 : Option V, σ' = [some lv, some wv, some ev, some (.ref F), some (.ref B), x5, x6, x7, x8] ∧ Same H11 H') ⟨none, none, none, none, rfl, Same.refl _⟩ ?_ ?_ ?_
    · rintro i σ1 H12 _ ⟨_, _, _, _, _, k⟩
      exact SqL.of (k _ _ eB)
    · rintro i x σ1 H12 H13 hi ⟨x5, x6, x7, x8, rfl, s13⟩ ⟨rfl, hx⟩
      obtain ⟨⟨C, fs⟩, ee, hent⟩ := lB.at hx
      obtain ⟨oC, ofs⟩ := eok _ (List.mem_of_getElem? ee)
      obtain ⟨t, sv, rr, rus, rfl, et, hsv, er, lrs⟩ := hent.same s13
      have oC : C = 3 ∨ C = 4 ∨ C = 5 ∨ C = 6 ∨ C = 7 := oC
      have hsv : StpR H13 sv (C, 1) := hsv
      have hC : C < 8 := by omega
      have stC : StOk (C, 1) := stOk hC (by omega) (by omega)
      have hlk13 := LkR.mn.to hlk (TK.same s13)
      have dok := drawN_ok (n := 1) hC hok
      refine ⟨t, _, rfl, SqT.of et, rfl, _, _, rfl, _, _, rfl, rfl, ?_⟩
      refine ⟨_, rfl, _, rfl, sv, lv, (C, 1), lk, rfl, hsv, stC, hlk13, hok, fun H14 u s14 hu => ?_⟩
      have hu : LkR H14 u (drawN C 1 lk) := hu
      have hsv14 := StpR.mn.to hsv (TK.same s14)
      refine ⟨_, rfl, _, rfl, sv, u, (C, 1), _, rfl, hsv14, stC, hu, dok, fun H15 u2 s15 hu2 => ?_⟩
      have hu2 : LkR H15 u2 (drawN C 1 (drawN C 1 lk)) := hu2
      rw [draw_again (by omega)] at hu2
      have hu15 := LkR.mn.to hu (TK.same s15)
      refine ⟨_, rfl, _, _, rfl, lk_eqv hu2 hu15 dok, true, rfl, ?_⟩
      have s1315 := s14.trans s15
      have er15 := s1315 _ _ er
      have lr15 := lrs.mono fun _ _ z => StpR.mn.to z (TK.same s1315)
      have hsv15 := StpR.mn.to hsv (TK.same s1315)
      have hlk15 := LkR.mn.to hlk13 (TK.same s1315)
      refine ⟨_, rfl, rr, rfl, ⟨_, SqL.of er15⟩, ?_⟩
      refine for_it (walk_list (K := K) (a := rr) (xs := rus)) (fun j σ' H' => ∃ x8 : Option V, σ' = [some lv, some wv, some ev, some (.ref F), some (.ref B), some sv, some (.ref rr), some u, x8] ∧ Same H15 H') ⟨x8, rfl, Same.refl _⟩ ?_ ?_ ?_
      · rintro j σ2 H16 _ ⟨_, _, k⟩
        exact SqL.of (k _ _ er15)
      · rintro j z σ2 H16 H17 hj ⟨x8, rfl, s17⟩ ⟨rfl, hz⟩
        obtain ⟨⟨G, n⟩, eg, hgv⟩ := lr15.at hz
        obtain ⟨mF, oG⟩ := ofs _ (List.mem_of_getElem? eg)
        have sw := swallow (C := C) (m := 1) (F := G) (n := n) mF lk
        have hgv := StpR.mn.to hgv (TK.same s17)
        have dG := drawN_ok (n := n) oG.1 hok
        refine ⟨_, rfl, _, rfl, _, rfl, z, lv, (G, n), lk, rfl, hgv, oG, LkR.mn.to hlk15 (TK.same s17), hok, fun H18 w1 s18 hw1 => ?_⟩
        have hw1 : LkR H18 w1 (drawN G n lk) := hw1
        refine ⟨sv, w1, (C, 1), _, rfl, StpR.mn.to hsv15 (TK.same (s17.trans s18)), stC, hw1, dG, fun H19 w2 s19 hw2 => ?_⟩
        have hw2 : LkR H19 w2 (drawN C 1 (drawN G n lk)) := hw2
        rw [sw.1] at hw2
        have s1519 := s17.trans (s18.trans s19)
        refine ⟨_, rfl, _, _, rfl, lk_eqv hw2 (LkR.mn.to hu15 (TK.same s1519)) dok, true, rfl, ?_⟩
        refine ⟨_, rfl, _, rfl, z, u, (G, n), _, rfl, StpR.mn.to hgv (TK.same (s18.trans s19)), oG, LkR.mn.to hu15 (TK.same s1519), dok, fun H20 w3 s20 hw3 => ?_⟩
        have hw3 : LkR H20 w3 (drawN G n (drawN C 1 lk)) := hw3
        rw [sw.2] at hw3
        exact ⟨_, rfl, _, _, rfl, lk_eqv hw3 (LkR.mn.to hu15 (TK.same (s1519.trans s20))) dok, true, rfl, _, rfl, s1519.trans s20⟩
      · rintro σ2 H16 ⟨x8, rfl, s16⟩
        exact ⟨_, _, _, _, rfl, (s13.trans s1315).trans s16⟩
    · rintro σ1 H12 ⟨x5, x6, x7, x8, rfl, s12⟩
      have oE : StOk (1, b) := stOk (by omega) b1 b2
      have hlk12 := LkR.mn.to hlk (TK.same s12)
      have he12 := StpR.mn.to he (TK.same s12)
      have dok := drawN_ok (k := 1) (n := b) (by omega) hok
      refine ⟨_, rfl, _, rfl, _, rfl, ev, lv, (1, b), lk, rfl, he12, oE, hlk12, hok, fun H13 u1 s13 hu1 => ?_⟩
      have hu1 : LkR H13 u1 (drawN 1 b lk) := hu1
      refine ⟨ev, u1, (1, b), _, rfl, StpR.mn.to he12 (TK.same s13), oE, hu1, dok, fun H14 u2 s14 hu2 => ?_⟩
      have hu2 : LkR H14 u2 (drawN 1 b (drawN 1 b lk)) := hu2
      rw [draw_again (by omega)] at hu2
      have s1214 := s13.trans s14
      refine ⟨_, rfl, _, rfl, ev, lv, (1, b), lk, rfl, StpR.mn.to he12 (TK.same s1214), oE, LkR.mn.to hlk12 (TK.same s1214), hok, fun H15 u3 s15 hu3 => ?_⟩
      exact ⟨_, _, rfl, lk_eqv (LkR.mn.to hu2 (TK.same s15)) hu3 dok, q _ (s1B.trans (s12.trans (s1214.trans s15)))⟩
end
end Vf

set_option Elab.async false
set_option linter.all false
set_option maxRecDepth 100000
set_option maxHeartbeats 4000000
namespace Vf
open PySem PySem.Spec PyProof.Rows L2 TL
open PySem.Builtin.Str (occurrences subAt strSliceIndices)
theorem occ_run_no {x : Str} {c : Nat} (hc : c ∉ x.cps.toList) : ∀ (n a : Nat), (forIn (m := Id) (List.range' a n) ((#[] : Array Nat), 0) (StrLaws.occBody x ⟨#[c]⟩ x.length 1)).run.fst = #[]
  | 0, a => rfl
  | n + 1, a => by
    rw [List.range'_succ, List.forIn_cons]
    unfold StrLaws.occBody
    rw [if_neg (fun z => hc (List.mem_of_getElem? ((StrLaws.subAt_one x c a).mp ⟨z.1.2, z.2⟩)))]
    exact occ_run_no hc n (a + 1)
theorem find_none {x : Str} {c : Nat} (hc : c ∉ x.cps.toList) : Txt.find x ⟨#[c]⟩ = -1 := by
  unfold Txt.find
  rw [StrLaws.occ_eq, occ_run_no hc]
theorem frst_idx (r : Rw) : r.idxOf 35 = frst r := rfl
theorem find_row (r : Rw) : Txt.find (mkS r) ("#" : Str) = if hasC r = true then ((frst r : Nat) : Int) else -1 := by
  rw [hash_mk]
  by_cases h : hasC r = true
  · rw [if_pos h]
    exact find_first (x := mkS r) (c := 35) (of_decide_eq_true h)
  · rw [if_neg h]
    exact find_none (x := mkS r) (c := 35) (fun z => h (decide_eq_true z))
theorem cutD {zs : List Nat} {j : Nat} (h : j ≤ zs.length) : cutS (mkS zs) (some (j : Int)) none = mkS (zs.drop j) := by
  unfold cutS
  rw [HT.sIx_nat, HT.sIx_none, mkS_len, Nat.min_eq_left h]
  show mkS ((zs.drop j).take (zs.length - j)) = _
  rw [List.take_of_length_le (by rw [List.length_drop]; exact Nat.le_refl _)]
/-- one row as a look -/
theorem lk_row {H : Hp} {p2 p3 : Addr} {x : V} {r : Rw} (e : x = sV r) (np2 : H p2 = none) (np3 : upd H p2 (.tup [x]) p3 = none) : Same H (upd (upd H p2 (.tup [x])) p3 (.tup [.ref p2])) ∧ LkR (upd (upd H p2 (.tup [x])) p3 (.tup [.ref p2])) (.ref p3) [[r]] := by
  subst e
  have s1 := same_upd (o := .tup [sV r]) (Same.refl H) np2
  have s2 := same_upd (o := .tup [.ref p2]) (Same.refl (upd H p2 (.tup [sV r]))) np3
  have hp : PgR (upd H p2 (.tup [sV r])) (.ref p2) [r] := PgR.iff.mpr ⟨p2, rfl, upd_same⟩
  exact ⟨s1.trans s2, p3, [.ref p2], rfl, upd_same, LV.nil.snoc (R := PgR _) (PgR.mn.to hp (TK.same s2))⟩
theorem lk_page {H : Hp} {p : Addr} {v : V} {pg : Pg} (hv : PgR H v pg) (np : H p = none) : Same H (upd H p (.tup [v])) ∧ LkR (upd H p (.tup [v])) (.ref p) [pg] := by
  have s1 := same_upd (o := .tup [v]) (Same.refl H) np
  exact ⟨s1, p, [v], rfl, upd_same, LV.nil.snoc (R := PgR _) (PgR.mn.to hv (TK.same s1))⟩
theorem row_ok {r : Rw} (h : r.length ≤ 200) : LkOk [[r]] := ⟨by show 1 ≤ 200; omega, fun p hp => by
  rw [List.mem_singleton.mp hp]
  exact ⟨by show 1 ≤ 200; omega, fun q hq => by rw [List.mem_singleton.mp hq]; exact h⟩⟩
theorem page_ok {p : Pg} (h : PgOk p) : LkOk [p] := ⟨by show 1 ≤ 200; omega, fun q hq => by rw [List.mem_singleton.mp hq]; exact h⟩
theorem lk_get {H : Hp} {v : V} {q : Pg} (h : LkR H v [q]) : ∃ a b, v = .ref a ∧ H a = some (.tup [.ref b]) ∧ H b = some (.tup (q.map sV)) := by
  obtain ⟨a, us, rfl, ea, lu⟩ := h
  have hl := lu.1
  obtain ⟨x, ex, hx⟩ := lu.2 0 q rfl
  obtain ⟨b, rfl, eb⟩ := PgR.iff.mp hx
  match us, hl, ex with
  | [y], _, ex =>
    have := Option.some.inj ex
    subst this
    exact ⟨a, b, rfl, ea, eb⟩
section
variable {P : Program} {w : World} {K : PySem.W.Frag} {mg : Str → Option Value} {base : Heap}
def spRP : Sp := fun vs H Q _ => ∃ (r : Rw) (n : Nat), vs = [sV r, nV n] ∧ r.length ≤ 200 ∧ 1 ≤ n ∧ n ≤ 1000 ∧ ∀ H', Same H H' → Q (.bl true) H'
theorem ok_rowP (T : Txt K mg) : FnOk P w K mg base CX0 5 T.a_law_row_parts T.d_law_row_parts ["_law_row", "_law_n"] spRP := by
  have G_draw : FnOk P w K mg base CX0 4 T.a_draw T.d_draw ["step", "look"] spDue := ok_drawS T
  have G_law_exact : FnOk P w K mg base CX0 4 T.a_law_exact T.d_law_exact ["_law_told", "_law_due"] (spExact 3) := ok_exact T 3
  refine T.D_law_row_parts.F.ok sc_law_row_parts (fun vs H Q E h => ?_) (fun cdv A outer s H vs Q E hr h => ?_)
  · obtain ⟨r, n, rfl, _⟩ := h
    rfl
  · obtain ⟨r, n, rfl, hz, hn1, hn, q⟩ := h
    refine ⟨_, (pss_cons (ps_set (i := 2) sc_law_row_parts.nd rfl (.inl rfl) (pe_join pe_str (pe_lc (own := [("_law_x", 4)]) (g := gName 4) (tt := tYes) rfl sc_law_row_parts.nd (pi_range1 (by rfl) T.n_range (pa_cons (pe_callB call_len_str (by rfl) T.n_len PySem.boot_len (pa_cons (pv 0) pa_nil)) pa_nil)) (blkOk_by (own := [("_law_x", 4)]) (N := ["_law_row", "_law_n", "_law_near", "_law_whole", "_law_x", "_law_due"]) (sc := (defScope s_law_row_parts)) (by decide +kernel)) (fun _ _ _ _ _ => (pg_name (i := 4) sc_law_row_parts.nd rfl (.inl rfl))) (fun _ _ _ _ _ => pts_nil) (fun _ _ _ _ _ => (pe_ifExp (pt_cmpR op_in_sign pe_str (pe_slice sl_str (pv 0) (po_some (pe_callB (call_max2 (by rfl)) (by rfl) T.n_max (by decide +kernel) (pa_cons pe_int (pa_cons (pe_op op_sub (pv 4) pe_int) pa_nil)))) (po_some (pe_op op_add (pv 4) pe_int))) (by rfl)) pe_str (pe_ix ix_str (pv 0) (pv 4) (fun _ _ => rfl)))))))
      (pss_cons (ps_if (pt_not (pt_val (pe_call G_law_exact (hr.mono (by decide)) (by rfl) T.D_law_exact.G T.D_law_exact.F.kp T.D_law_exact.B .nil pass0 (pa_cons (pe_call G_draw (hr.mono (by decide)) (by rfl) T.D_draw.G T.D_draw.F.kp T.D_draw.B .nil pass0 (pa_cons (pe_tup (pa_cons pe_str (pa_cons pe_int pa_nil))) (pa_cons (pe_tup (pa_cons (pe_tup (pa_cons (pv 0) pa_nil)) pa_nil)) pa_nil))) (pa_cons (pe_tup (pa_cons (pe_tup (pa_cons (pv 2) pa_nil)) pa_nil)) pa_nil))))) (pss_one (ps_ret pe_bl)) pss_nil)
      (Evl.pss_cut (ps_set (i := 3) sc_law_row_parts.nd rfl (.inl rfl) (pe_ifExp (pt_cmpR op_in_sign pe_str (pv 0) (by rfl)) (pe_op op_mul_str pe_str (pe_callB call_len_str (by rfl) T.n_len PySem.boot_len (pa_cons (pv 0) pa_nil))) (pv 0)))
      (pss_cons (ps_if (pt_not (pt_val (pe_call G_law_exact (hr.mono (by decide)) (by rfl) T.D_law_exact.G T.D_law_exact.F.kp T.D_law_exact.B .nil pass0 (pa_cons (pe_call G_draw (hr.mono (by decide)) (by rfl) T.D_draw.G T.D_draw.F.kp T.D_draw.B .nil pass0 (pa_cons (pe_tup (pa_cons pe_str pa_nil)) (pa_cons (pe_tup (pa_cons (pe_tup (pa_cons (pv 0) pa_nil)) pa_nil)) pa_nil))) (pa_cons (pe_tup (pa_cons (pe_tup (pa_cons (pv 3) pa_nil)) pa_nil)) pa_nil))))) (pss_one (ps_ret pe_bl)) pss_nil)
      (pss_cons (ps_set (i := 4) sc_law_row_parts.nd rfl (.inl rfl) (pe_bm PySem.F.plainAttrs_str PySem.F.slot_str_find PySem.F.type_str_find mt_find (pv 0) (pa_cons pe_str pa_nil)))
      (pss_cons (ps_set (i := 5) sc_law_row_parts.nd rfl (.inl rfl) (pv 0))
      (Evl.pss_cut (ps_if (pt_cmpR op_ge (pv 4) pe_int (nomark _)) (pss_cons (ps_set (i := 5) sc_law_row_parts.nd rfl (.inl rfl) (pe_op op_add_str (pe_slice sl_str (pv 0) po_none (po_some (pv 4))) (pe_op op_mul_str pe_str (pe_callB (call_min2 (by rfl)) (by rfl) T.n_min (by decide +kernel) (pa_cons (pv 1) (pa_cons (pe_op op_sub (pe_callB call_len_str (by rfl) T.n_len PySem.boot_len (pa_cons (pv 0) pa_nil)) (pv 4)) pa_nil))))))
      (pss_one (ps_if (pt_cmpR op_lt (pe_callB call_len_str (by rfl) T.n_len PySem.boot_len (pa_cons (pv 5) pa_nil)) (pe_callB call_len_str (by rfl) T.n_len PySem.boot_len (pa_cons (pv 0) pa_nil)) (nomark _)) (pss_one (ps_set (i := 5) sc_law_row_parts.nd rfl (.inl rfl) (pe_op op_add_str (pv 5) (pe_ix ix_tup (pe_ix ix_tup (pe_call G_draw (hr.mono (by decide)) (by rfl) T.D_draw.G T.D_draw.F.kp T.D_draw.B .nil pass0 (pa_cons (pe_tup (pa_cons pe_str (pa_cons (pv 1) pa_nil))) (pa_cons (pe_tup (pa_cons (pe_tup (pa_cons (pe_slice sl_str (pv 0) (po_some (pe_op op_add (pv 4) (pv 1))) po_none) pa_nil)) pa_nil)) pa_nil))) pe_int (fun _ _ => rfl)) pe_int (fun _ _ => rfl))))) pss_nil))) pss_nil)
      (pss_one (ps_ret (pe_call G_law_exact (hr.mono (by decide)) (by rfl) T.D_law_exact.G T.D_law_exact.F.kp T.D_law_exact.B .nil pass0 (pa_cons (pe_call G_draw (hr.mono (by decide)) (by rfl) T.D_draw.G T.D_draw.F.kp T.D_draw.B .nil pass0 (pa_cons (pe_tup (pa_cons pe_str (pa_cons (pv 1) pa_nil))) (pa_cons (pe_tup (pa_cons (pe_tup (pa_cons (pv 0) pa_nil)) pa_nil)) pa_nil))) (pa_cons (pe_tup (pa_cons (pe_tup (pa_cons (pv 5) pa_nil)) pa_nil)) pa_nil)))))))))))), ?_⟩
    have sz : (mkS r).length ≤ sizeLine := by rw [mkS_len]; exact big_ok (by omega)
    have one : (1 : Nat) ≤ sizeLine := big_ok (by omega)
    have two : (2 : Nat) ≤ sizeLine := big_ok (by omega)
    have wl := wide_len 1 r
    refine ⟨⟨_, rfl⟩, _, rfl, mkS r, rfl, sz, (r.length : Int), by rw [mkS_len], by omega, by omega, ?_⟩
    rw [toNat_k]
    refine fun D nD => ?_
    refine lc_it walk_rangeN (fun i H' => H' D = some (.lst (((List.range r.length).take i).map fun x => sV [if nearB 1 r x = true then 35 else r.getD x 0])) ∧ Same H H') ⟨upd_same, same_upd (Same.refl H) nD⟩ (fun _ _ _ _ => trivial) ?_ ?_
    · rintro i x H1 H2 hi ⟨eD, k1⟩ ⟨rfl, rfl⟩
      refine ⟨rfl, ?_⟩
      refine ⟨_, rfl, _, rfl, _, _, rfl, rfl, _, _, rfl, _, rfl, _, rfl, _, _, rfl, rfl, _, rfl, mkS r, rfl, sz, ?_⟩
      rw [cut_near (n := 1) hi (by split <;> omega) (by omega)]
      refine ⟨35, _, by rw [hash_mk]; rfl, rfl, _, rfl, ?_⟩
      rw [in_hash, near_has]
      have ac : ∀ b : Nat, b = (if nearB 1 r i = true then 35 else r.getD i 0) → ∃ acc, H2 D = some (.lst acc) ∧ acc.length < sizeLine ∧ (upd H2 D (.lst (acc ++ [sV [b]])) D = some (.lst (((List.range r.length).take (i + 1)).map fun x => sV [if nearB 1 r x = true then 35 else r.getD x 0])) ∧ Same H (upd H2 D (.lst (acc ++ [sV [b]])))) := fun b hb => by
        refine ⟨_, eD, szN (by rw [List.length_map, List.length_take, List.length_range]; omega), ?_, same_mut k1 nD⟩
        rw [range_take hi, List.map_append, hb]
        exact upd_same
      by_cases h : nearB 1 r i = true
      · rw [h]
        have := ac 35 (by rw [if_pos h])
        rw [show (sV [35] : V) = V.str ("#" : Str) from by rw [hash_mk]; rfl] at this
        exact this
      · rw [Bool.eq_false_iff.mpr h]
        exact ⟨_, rfl, _, rfl, mkS r, (i : Int), _, rfl, rfl, sz, str_at hi, ac (r.getD i 0) (by rw [if_neg h])⟩
    · rintro H1 ⟨eD, k1⟩
      have eD : H1 D = some (.lst ((wideN 1 r).map fun c => sV [c])) := by
        rw [eD, List.take_of_length_le (by rw [List.length_range]; exact Nat.le_refl _)]
        unfold wideN
        rw [List.map_map]; rfl
      refine ⟨_, D, ((wideN 1 r).map fun c => [c]).map mkS, rfl, rfl, .inl (SqL.of (by rw [eD, sgs_V])), sgs_sz (by omega), ?_⟩
      rw [join_sgs]
      -- wide by one
      refine ⟨two, fun p1 np1 => ⟨_, rfl, one, fun p2 np2 => ⟨one, fun p3 np3 => ?_⟩⟩⟩
      have s2 := same_upd (o := .tup [V.str ("wide" : Str), V.int 1]) (Same.refl H1) np1
      have st2 : StpR (upd H1 p1 (.tup [V.str ("wide" : Str), V.int 1])) (.ref p1) (0, 1) := stp_n (by decide) rfl rfl
      generalize upd H1 p1 (.tup [V.str ("wide" : Str), V.int 1]) = H2 at s2 st2 np2 np3
      obtain ⟨s3, l3⟩ := lk_row (r := r) rfl np2 np3
      generalize upd (upd H2 p2 (.tup [sV r])) p3 (.tup [.ref p2]) = H3 at s3 l3
      refine ⟨.ref p1, .ref p3, (0, 1), [[r]], rfl, StpR.mn.to st2 (TK.same s3), stOk (by omega) (by omega) (by omega), l3, row_ok hz, fun H4 u4 s4 hu4 => ?_⟩
      have hu4 : LkR H4 u4 [[wideN 1 r]] := hu4
      refine ⟨_, rfl, one, fun p4 np4 => ⟨one, fun p5 np5 => ?_⟩⟩
      obtain ⟨s5, l5⟩ := lk_row (x := V.str (mkS (wideN 1 r))) (r := wideN 1 r) rfl np4 np5
      generalize upd (upd H4 p4 (.tup [V.str (mkS (wideN 1 r))])) p5 (.tup [.ref p4]) = H5 at s5 l5
      refine ⟨_, _, rfl, lk_eqv (LkR.mn.to hu4 (TK.same s5)) l5 (row_ok (by omega)), true, rfl, ?_⟩
      have k5 := k1.trans (s2.trans (s3.trans (s4.trans s5)))
      have wh : sV (wholeN r) = V.str (Txt.mul ("#" : Str) (((mkS r).length : Nat) : Int)) := by rw [hash_mk, mkS_len, mul_sign]; rfl
      refine ⟨fun σ' H' => σ' = [some (sV r), some (nV n), some (sV (wideN 1 r)), some (sV (rowsN r)), none, none] ∧ Same H H', ?_, ?_⟩
      · refine ⟨_, rfl, 35, mkS r, by rw [hash_mk]; rfl, rfl, _, rfl, ?_⟩
        rw [in_hash]
        by_cases hc : hasC r = true
        · rw [hc]
          refine ⟨_, rfl, mkS r, rfl, sz, _, _, rfl, rfl, by rw [mkS_len]; exact mul_okN (by omega) (by decide), ?_⟩
          rw [← wh]
          exact ⟨by unfold rowsN; rw [if_pos hc]; rfl, k5⟩
        · rw [Bool.eq_false_iff.mpr hc]
          exact ⟨_, rfl, by unfold rowsN; rw [if_neg hc]; rfl, k5⟩
      · rintro σ1 H6 ⟨rfl, k6⟩
        have rl := rows_RG.len r
        refine ⟨one, fun p1 np1 => ⟨_, rfl, one, fun p2 np2 => ⟨one, fun p3 np3 => ?_⟩⟩⟩
        have s7 := same_upd (o := .tup [V.str ("rows" : Str)]) (Same.refl H6) np1
        have st7 : StpR (upd H6 p1 (.tup [V.str ("rows" : Str)])) (.ref p1) (3, 1) := stp_1 (by decide) rfl
        generalize upd H6 p1 (.tup [V.str ("rows" : Str)]) = H7 at s7 st7 np2 np3
        obtain ⟨s8, l8⟩ := lk_row (r := r) rfl np2 np3
        generalize upd (upd H7 p2 (.tup [sV r])) p3 (.tup [.ref p2]) = H8 at s8 l8
        refine ⟨.ref p1, .ref p3, (3, 1), [[r]], rfl, StpR.mn.to st7 (TK.same s8), stOk (by omega) (by omega) (by omega), l8, row_ok hz, fun H9 u9 s9 hu9 => ?_⟩
        have hu9 : LkR H9 u9 [[rowsN r]] := hu9
        refine ⟨_, rfl, one, fun p4 np4 => ⟨one, fun p5 np5 => ?_⟩⟩
        obtain ⟨s10, l10⟩ := lk_row (r := rowsN r) rfl np4 np5
        generalize upd (upd H9 p4 (.tup [sV (rowsN r)])) p5 (.tup [.ref p4]) = H10 at s10 l10
        refine ⟨_, _, rfl, lk_eqv (LkR.mn.to hu9 (TK.same s10)) l10 (row_ok (by omega)), true, rfl, ?_⟩
        have k10 := k6.trans (s7.trans (s8.trans (s9.trans s10)))
        refine ⟨_, rfl, rfl, mkS r, ("#" : Str), rfl, rfl, ?_⟩
        rw [find_row]
        refine ⟨_, rfl, ?_⟩
        refine ⟨fun σ' H' => ∃ x4 : Option V, σ' = [some (sV r), some (nV n), some (sV (wideN 1 r)), some (sV (rowsN r)), x4, some (sV (evenN n r))] ∧ Same H H', ?_, ?_⟩
        · by_cases hc : hasC r = true
          · rw [if_pos hc]
            have hf := frst_has.mp hc
            have ep := even_parts hn1 hf
            refine ⟨_, rfl, _, _, rfl, rfl, true, bl_of (decide_eq_true (by omega)), ?_⟩
            refine ⟨_, rfl, _, rfl, _, rfl, mkS r, rfl, sz, _, rfl, _, rfl, mkS r, rfl, sz, _, rfl, _, _, rfl, rfl, _, _, rfl, ?_⟩
            have em : (if (((mkS r).length : Nat) : Int) - ((frst r : Nat) : Int) < ((n : Nat) : Int) then (((mkS r).length : Nat) : Int) - ((frst r : Nat) : Int) else ((n : Nat) : Int)) = ((min n (r.length - frst r) : Nat) : Int) := by rw [mkS_len]; split <;> omega
            refine ⟨("#" : Str), ((min n (r.length - frst r) : Nat) : Int), rfl, congrArg V.int em, mul_okN (by omega) (by decide), ?_⟩
            rw [cutT, hash_mk, mul_sign]
            refine ⟨_, _, rfl, rfl, ?_, ?_⟩
            · rw [mkS_len, mkS_len, List.length_take, List.length_replicate]; exact big_ok (by omega)
            rw [mkS_app]
            have ld : (r.take (frst r) ++ List.replicate (min n (r.length - frst r)) 35).length = min (frst r + n) r.length := by rw [List.length_append, List.length_take, List.length_replicate]; omega
            generalize hdu : r.take (frst r) ++ List.replicate (min n (r.length - frst r)) 35 = du at ld
            have zd : (mkS du).length ≤ sizeLine := by rw [mkS_len]; exact big_ok (by omega)
            refine ⟨_, rfl, mkS du, rfl, zd, _, rfl, mkS r, rfl, sz, _, _, rfl, rfl, _, rfl, ?_⟩
            by_cases cl : du.length < r.length
            · rw [show decide ((((mkS du).length : Nat) : Int) < (((mkS r).length : Nat) : Int)) = true from decide_eq_true (by rw [mkS_len, mkS_len]; omega)]
              refine ⟨_, rfl, _, rfl, two, fun p1 np1 => ?_⟩
              have s11 := same_upd (o := .tup [V.str ("even" : Str), nV n]) (Same.refl H10) np1
              have st11 : StpR (upd H10 p1 (.tup [V.str ("even" : Str), nV n])) (.ref p1) (1, n) := stp_n (by decide) rfl rfl
              generalize upd H10 p1 (.tup [V.str ("even" : Str), nV n]) = H11 at s11 st11
              refine ⟨_, rfl, _, rfl, _, rfl, _, _, rfl, rfl, _, rfl, mkS r, rfl, sz, ?_⟩
              rw [show ((frst r : Nat) : Int) + ((n : Nat) : Int) = ((frst r + n : Nat) : Int) by omega, cutD (by omega)]
              refine ⟨one, fun p2 np2 => ⟨one, fun p3 np3 => ?_⟩⟩
              obtain ⟨s12, l12⟩ := lk_row (x := V.str (mkS (r.drop (frst r + n)))) (r := r.drop (frst r + n)) rfl np2 np3
              generalize upd (upd H11 p2 (.tup [V.str (mkS (r.drop (frst r + n)))])) p3 (.tup [.ref p2]) = H12 at s12 l12
              refine ⟨.ref p1, .ref p3, (1, n), [[r.drop (frst r + n)]], rfl, StpR.mn.to st11 (TK.same s12), stOk (by omega) hn1 hn, l12, row_ok (by rw [List.length_drop]; omega), fun H13 u13 s13 hu13 => ?_⟩
              have hu13 : LkR H13 u13 [[evenN n (r.drop (frst r + n))]] := hu13
              obtain ⟨ya, yb, rfl, e1, e2⟩ := lk_get hu13
              refine ⟨ya, _, 0, _, rfl, rfl, SqT.of e1, atI_nat (j := 0) rfl, yb, _, 0, _, rfl, rfl, SqT.of e2, atI_nat (j := 0) rfl, mkS du, mkS (evenN n (r.drop (frst r + n))), rfl, rfl, ?_, ?_⟩
              · rw [mkS_len, mkS_len, even_len, List.length_drop]; exact big_ok (by omega)
              rw [mkS_app]
              refine ⟨some (nV (frst r)), by rw [ep, ← List.append_assoc, hdu]; rfl, k10.trans (s11.trans (s12.trans s13))⟩
            · rw [show decide ((((mkS du).length : Nat) : Int) < (((mkS r).length : Nat) : Int)) = false from decide_eq_false (by rw [mkS_len, mkS_len]; omega)]
              refine ⟨some (nV (frst r)), ?_, k10⟩
              rw [ep, ← List.append_assoc, hdu, List.drop_eq_nil_of_le (show r.length ≤ frst r + n by omega), show evenN n [] = [] from rfl, List.append_nil]; rfl
          · rw [if_neg hc]
            refine ⟨_, rfl, _, _, rfl, rfl, false, bl_of (decide_eq_false (by omega)), ?_⟩
            exact ⟨some (V.int (-1)), by rw [(even_RG n).none r (Bool.eq_false_iff.mpr hc)]; rfl, k10⟩
        · rintro σ2 H11 ⟨x4, rfl, k11⟩
          refine ⟨_, rfl, two, fun p1 np1 => ⟨_, rfl, one, fun p2 np2 => ⟨one, fun p3 np3 => ?_⟩⟩⟩
          have s12 := same_upd (o := .tup [V.str ("even" : Str), nV n]) (Same.refl H11) np1
          have st12 : StpR (upd H11 p1 (.tup [V.str ("even" : Str), nV n])) (.ref p1) (1, n) := stp_n (by decide) rfl rfl
          generalize upd H11 p1 (.tup [V.str ("even" : Str), nV n]) = H12 at s12 st12 np2 np3
          obtain ⟨s13, l13⟩ := lk_row (r := r) rfl np2 np3
          generalize upd (upd H12 p2 (.tup [sV r])) p3 (.tup [.ref p2]) = H13 at s13 l13
          refine ⟨.ref p1, .ref p3, (1, n), [[r]], rfl, StpR.mn.to st12 (TK.same s13), stOk (by omega) hn1 hn, l13, row_ok hz, fun H14 u14 s14 hu14 => ?_⟩
          have hu14 : LkR H14 u14 [[evenN n r]] := hu14
          refine ⟨_, rfl, one, fun p4 np4 => ⟨one, fun p5 np5 => ?_⟩⟩
          obtain ⟨s15, l15⟩ := lk_row (r := evenN n r) rfl np4 np5
          generalize upd (upd H14 p4 (.tup [sV (evenN n r)])) p5 (.tup [.ref p4]) = H15 at s15 l15
          exact ⟨_, _, rfl, lk_eqv (LkR.mn.to hu14 (TK.same s15)) l15 (row_ok (by rw [even_len]; exact hz)), q _ (k11.trans (s12.trans (s13.trans (s14.trans s15))))⟩
end
end Vf

set_option Elab.async false
set_option linter.all false
set_option maxRecDepth 100000
set_option maxHeartbeats 4000000
namespace Vf
open PySem PySem.Spec PyProof.Rows L2 TL
/-- a comprehension with a test, its things by their numbers -/
theorem lc_fil {J : It} {n : Nat} {G : Hp → Prop} {it : Nat → V} (w : Walk J n G (YFn it)) {p : Nat → Bool} {f : Nat → V} {g : TG} {tt : TT} {te : TE} {vs : List Nat} {σ : L2.St} {H : Hp} {Qd : Addr → Hp → Prop}
    (hG : ∀ H', Same H H' → G H') (hn : n ≤ 10000)
    (hs : ∀ (i : Nat) (H1 : Hp) (QQ : VK) (NN : Hp → Prop), i < n → Same H H1 → (p i = true → ∀ y H4, Same H1 H4 → y = f i → QQ y H4) → (p i = false → ∀ H4, Same H1 H4 → NN H4) →
      g (it i) (wipe σ vs) H1 fun σ2 H2 => wipe σ2 vs = wipe σ vs ∧ tt σ2 H2 fun b H3 => if b = true then te σ2 H3 QQ else NN H3)
    (hq : ∀ (D : Addr) (H' : Hp), H D = none → Same H H' → H' D = some (.lst (((List.range n).filter p).map f)) → Qd D H') :
    ∀ D, H D = none → ∃ W : Nat → Nat → Hp → Prop, (∃ m, W 0 m (upd H D (.lst []))) ∧ ∀ i m H', W i m H' →
      (J.stop i H' ∧ Qd D H') ∨ (J.go i H' ∧ ∃ Nx : Hp → Prop, (∀ H'', Nx H'' → ∃ m', m' < m ∧ W (i + 1) m' H'') ∧ ∀ x H'', J.yld i H' x H'' → g x (wipe σ vs) H'' fun σ2 H2 => wipe σ2 vs = wipe σ vs ∧ tt σ2 H2 fun b H3 =>
        if b = true then te σ2 H3 fun y H4 => ∃ acc, H4 D = some (.lst acc) ∧ acc.length < sizeLine ∧ Nx (upd H4 D (.lst (acc ++ [y]))) else Nx H3) := by
  intro D nD
  refine lc_it w (fun i H' => H' D = some (.lst (((List.range i).filter p).map f)) ∧ Same H H') ⟨upd_same, same_upd (Same.refl H) nD⟩ ?_ ?_ ?_
  · rintro i H' _ ⟨_, k⟩
    exact hG _ k
  · rintro i x H1 H2 hi ⟨eD, k1⟩ ⟨rfl, rfl⟩
    have lm : ((List.range i).filter p).length ≤ i := Nat.le_trans (List.length_filter_le _ _) (by rw [List.length_range]; exact Nat.le_refl _)
    refine hs i H2 _ _ hi k1 (fun hp y H4 k4 hy => ?_) fun hp H4 k4 => ⟨?_, k1.trans k4⟩
    · refine ⟨_, k4 _ _ eD, szN (by rw [List.length_map]; omega), ?_, same_mut (k1.trans k4) nD⟩
      rw [upd_same, List.range_succ, List.filter_append, List.filter_cons_of_pos hp, List.map_append, hy]; rfl
    · rw [List.range_succ, List.filter_append, List.filter_cons_of_neg (by rw [hp]; decide), List.filter_nil, List.append_nil]
      exact k4 _ _ eD
  · rintro H1 ⟨eD, k1⟩
    exact hq D H1 nD k1 eD
theorem slA_from {K : PySem.W.Frag} {a : Addr} {xs : List V} {lo : Option Int} {H : Hp} {Q : VK} {σ : L2.St} (e : H a = some (.tup xs)) (q : ∀ b H', Same H H' → H' b = some (.tup (cutV xs lo none)) → Q (.ref b) H') : tNoPart σ H (fun u H3 => rSlA K (.ref a) lo u H3 Q) :=
  slA_any e q
theorem walk_tupF {K : PySem.W.Frag} {a : Addr} {xs : List V} (d : V) : Walk (Itt K a) xs.length (fun H => SqT K H a xs) (YFn fun i => xs.getD i d) :=
  walk_tup.mono (fun _ h => h) fun i H x H' hi _ y => ⟨y.1, (getD_of y.2).symm⟩
def hitsP (P : Rw → Bool) (p : Pg) : List Nat := (List.range p.length).filter fun r => P (p.getD r [])
theorem hitsP_cases (P : Rw → Bool) (p : Pg) : (hitsP P p = [] ∧ p.findIdx P = p.length) ∨ ∃ t, hitsP P p = p.findIdx P :: t ∧ p.findIdx P < p.length := by
  have asc : (hitsP P p).Pairwise (· < ·) := List.Pairwise.filter _ List.pairwise_lt_range
  have mem : ∀ x, x ∈ hitsP P p ↔ x < p.length ∧ P (p.getD x []) = true := fun x => by
    unfold hitsP
    rw [List.mem_filter, List.mem_range]
  by_cases c : p.findIdx P < p.length
  · have hP : P (p.getD (p.findIdx P) []) = true := by
      rw [List.getD_eq_getElem?_getD, List.getElem?_eq_getElem c]
      exact List.findIdx_getElem (w := c)
    have hm := (mem _).mpr ⟨c, hP⟩
    cases e : hitsP P p with
    | nil => rw [e] at hm; cases hm
    | cons x t =>
      refine .inr ⟨t, ?_, c⟩
      have hx := (mem x).mp (by rw [e]; exact List.mem_cons_self)
      rw [e] at asc hm
      have le : p.findIdx P ≤ x := by
        by_cases q : x < p.findIdx P
        · have := List.not_of_lt_findIdx q
          rw [List.getD_eq_getElem?_getD, List.getElem?_eq_getElem hx.1] at hx
          have hx2 : P p[x] = true := hx.2
          rw [this] at hx2; cases hx2
        · omega
      rcases List.mem_cons.mp hm with q | q
      · rw [q]
      · have := (List.pairwise_cons.mp asc).1 _ q
        omega
  · have e : p.findIdx P = p.length := Nat.le_antisymm List.findIdx_le_length (by omega)
    refine .inl ⟨List.filter_eq_nil_iff.mpr fun x hx z => ?_, e⟩
    have hx := List.mem_range.mp hx
    have := List.not_of_lt_findIdx (xs := p) (p := P) (i := x) (by omega)
    rw [List.getD_eq_getElem?_getD, List.getElem?_eq_getElem hx] at z
    have z : P p[x] = true := z
    rw [this] at z; cases z
theorem allP_ok {p : Pg} (ok : PgOk p) : PgOk (p.map wholeN) := ⟨by rw [List.length_map]; exact ok.1, fun r hr => by
  obtain ⟨x, hx, rfl⟩ := List.mem_map.mp hr
  rw [whole_len]; exact ok.2 x hx⟩
theorem cut_1 (us : List V) {b : Nat} (h : b ≤ us.length) {hi : Int} (e : hi = ((b + 1 : Nat) : Int)) : cutV us (some ((b : Nat) : Int)) (some hi) = (us.drop b).take 1 := by
  subst e
  unfold cutV
  rw [HT.sIx_nat, HT.sIx_nat, Nat.min_eq_left h]
  by_cases c : b < us.length
  · rw [Nat.min_eq_left (by omega), show b + 1 - b = 1 by omega]
  · rw [List.drop_eq_nil_of_le (by omega)]; simp
theorem cut_dr (us : List V) {b : Nat} (h : b ≤ us.length) {lo : Int} (e : lo = ((b : Nat) : Int)) : cutV us (some lo) none = us.drop b := by
  subst e
  unfold cutV
  rw [HT.sIx_nat, HT.sIx_none, Nat.min_eq_left h, List.take_of_length_le (by rw [List.length_drop]; exact Nat.le_refl _)]
theorem pg_of {H : Hp} {a : Addr} {us : List V} {q : Pg} (e : H a = some (.tup us)) (eq : us = q.map sV) : PgR H (.ref a) q := PgR.iff.mpr ⟨a, rfl, by rw [e, eq]⟩
end Vf

set_option Elab.async false
set_option linter.all false
set_option maxRecDepth 100000
set_option maxHeartbeats 4000000
namespace Vf
open PySem PySem.Spec PyProof.Rows L2 TL
theorem catA_any {K : PySem.W.Frag} {a b : Addr} {xs ys : List V} {H : Hp} {Q : VK} (e1 : H a = some (.tup xs)) (e2 : H b = some (.tup ys)) (hl : xs.length + ys.length ≤ 100000) (q : ∀ c H', Same H H' → H' c = some (.tup (xs ++ ys)) → Q (.ref c) H') : rCatA K (.ref a) (.ref b) H Q := by
  refine ⟨a, b, xs, ys, rfl, rfl, SqT.of e1, SqT.of e2, Nat.le_trans hl (by decide), fun h => q b H (Same.refl H) (by rw [h, e2]; rfl), fun h1 h2 => q a H (Same.refl H) (by rw [h2, List.append_nil, e1]), fun _ _ p np => q p _ (same_upd (Same.refl H) np) upd_same⟩
section
variable {P : Program} {w : World} {K : PySem.W.Frag} {mg : Str → Option Value} {base : Heap}
def spPP : Sp := fun vs H Q _ => ∃ (pv : V) (p : Pg), vs = [pv] ∧ PgR H pv p ∧ PgOk p ∧ ∀ H', Same H H' → Q (.bl true) H'
theorem ok_pageP (T : Txt K mg) : FnOk P w K mg base CX0 5 T.a_law_page_parts T.d_law_page_parts ["_law_page"] spPP := by
  have G_draw : FnOk P w K mg base CX0 4 T.a_draw T.d_draw ["step", "look"] spDue := ok_drawS T
  have G_law_exact : FnOk P w K mg base CX0 4 T.a_law_exact T.d_law_exact ["_law_told", "_law_due"] (spExact 3) := ok_exact T 3
  refine T.D_law_page_parts.F.ok sc_law_page_parts (fun vs H Q E h => ?_) (fun cdv A outer s H vs Q E hr h => ?_)
  · obtain ⟨pv, p, rfl, _⟩ := h
    rfl
  · obtain ⟨pv, p, rfl, hp, ok, q⟩ := h
    obtain ⟨b, rfl, eb⟩ := PgR.iff.mp hp
    have p200 := ok.1
    have one : (1 : Nat) ≤ sizeLine := big_ok (by omega)
    have aok := allP_ok ok
    refine ⟨_, (pss_cons (ps_set (i := 1) sc_law_page_parts.nd rfl (.inl rfl) (pe_callTy call_tuple_of (by rfl) T.n_tuple (by decide +kernel) (pa_cons (pe_lc (own := [("_law_row", 6)]) (g := gName 6) (tt := tYes) rfl sc_law_page_parts.nd (pi_tup (pv 0)) (blkOk_by (own := [("_law_row", 6)]) (N := ["_law_page", "_law_whole", "_law_hit", "_law_first", "_law_blank", "_law_due", "_law_row", "_law_r"]) (sc := (defScope s_law_page_parts)) (by decide +kernel)) (fun _ _ _ _ _ => (pg_name (i := 6) sc_law_page_parts.nd rfl (.inl rfl))) (fun _ _ _ _ _ => pts_nil) (fun _ _ _ _ _ => (pe_op op_mul_str pe_str (pe_callB call_len_str (by rfl) T.n_len PySem.boot_len (pa_cons (pv 6) pa_nil))))) pa_nil)))
      (pss_cons (ps_setLc (i := 2) (own := [("_law_r", 7)]) (g := gName 7) rfl sc_law_page_parts.nd rfl rfl (sw_true rfl rfl rfl (by decide +kernel)) (pi_range1 (by rfl) T.n_range (pa_cons (pe_callB call_len_seq (by rfl) T.n_len PySem.boot_len (pa_cons (pv 0) pa_nil)) pa_nil)) (blkOk_by (own := [("_law_r", 7)]) (N := ["_law_page", "_law_whole", "_law_hit", "_law_first", "_law_blank", "_law_due", "_law_row", "_law_r"]) (sc := (defScope s_law_page_parts)) (by decide +kernel)) (fun _ _ _ _ _ => (pg_name (i := 7) sc_law_page_parts.nd rfl (.inl rfl))) (fun _ _ _ _ _ => (pts_one (pt_cmpR op_in_sign pe_str (pe_ix (r := rIxT K) ix_tup (pv 0) (pv 7) (fun _ _ => rfl)) (by rfl)))) (fun _ _ _ _ _ => (pv 7)))
      (pss_cons (ps_if (pt_not (pt_val (pe_call G_law_exact (hr.mono (by decide)) (by rfl) T.D_law_exact.G T.D_law_exact.F.kp T.D_law_exact.B .nil pass0 (pa_cons (pe_call G_draw (hr.mono (by decide)) (by rfl) T.D_draw.G T.D_draw.F.kp T.D_draw.B .nil pass0 (pa_cons (pe_tup (pa_cons pe_str pa_nil)) (pa_cons (pe_tup (pa_cons (pv 0) pa_nil)) pa_nil))) (pa_cons (pe_tup (pa_cons (pv 1) pa_nil)) pa_nil))))) (pss_one (ps_ret pe_bl)) pss_nil)
      (Evl.pss_cut (ps_if (pt_not (pt_val (pe_call G_law_exact (hr.mono (by decide)) (by rfl) T.D_law_exact.G T.D_law_exact.F.kp T.D_law_exact.B .nil pass0 (pa_cons (pe_call G_draw (hr.mono (by decide)) (by rfl) T.D_draw.G T.D_draw.F.kp T.D_draw.B .nil pass0 (pa_cons (pe_tup (pa_cons pe_str pa_nil)) (pa_cons (pe_tup (pa_cons (pv 0) pa_nil)) pa_nil))) (pa_cons (pe_ifExp (pt_truth (pv 2) (by intro _; rfl)) (pe_tup (pa_cons (pv 1) pa_nil)) (pe_tup (pa_cons (pv 0) pa_nil))) pa_nil))))) (pss_one (ps_ret pe_bl)) pss_nil)
      (Evl.pss_cut (ps_set (i := 3) sc_law_page_parts.nd rfl (.inl rfl) (pe_ifExp (pt_truth (pv 2) (by intro _; rfl)) (pe_ix ix_list (pv 2) pe_int (fun _ _ => rfl)) (pe_callB call_len_seq (by rfl) T.n_len PySem.boot_len (pa_cons (pv 0) pa_nil))))
      (pss_cons (ps_if (pt_not (pt_val (pe_call G_law_exact (hr.mono (by decide)) (by rfl) T.D_law_exact.G T.D_law_exact.F.kp T.D_law_exact.B .nil pass0 (pa_cons (pe_call G_draw (hr.mono (by decide)) (by rfl) T.D_draw.G T.D_draw.F.kp T.D_draw.B .nil pass0 (pa_cons (pe_tup (pa_cons pe_str pa_nil)) (pa_cons (pe_tup (pa_cons (pv 0) pa_nil)) pa_nil))) (pa_cons (pe_tup (pa_cons (pe_op op_catA (pe_slice sl_tupA (pv 0) po_none (po_some (pv 3))) (pe_slice sl_tupA (pv 1) (po_some (pv 3)) po_none)) pa_nil)) pa_nil))))) (pss_one (ps_ret pe_bl)) pss_nil)
      (pss_cons (ps_set (i := 4) sc_law_page_parts.nd rfl (.inl rfl) (pe_op op_cat (pe_lc (own := [("_law_r", 7)]) (g := gName 7) rfl sc_law_page_parts.nd (pi_range1 (by rfl) T.n_range (pa_cons (pe_callB call_len_seq (by rfl) T.n_len PySem.boot_len (pa_cons (pv 0) pa_nil)) pa_nil)) (blkOk_by (own := [("_law_r", 7)]) (N := ["_law_page", "_law_whole", "_law_hit", "_law_first", "_law_blank", "_law_due", "_law_row", "_law_r"]) (sc := (defScope s_law_page_parts)) (by decide +kernel)) (fun _ _ _ _ _ => (pg_name (i := 7) sc_law_page_parts.nd rfl (.inl rfl))) (fun _ _ _ _ _ => (pts_one (pt_cmpR op_eq (pe_ix (r := rIxT K) ix_tup (pv 0) (pv 7) (fun _ _ => rfl)) (pe_op op_mul_str pe_str (pe_callB call_len_str (by rfl) T.n_len PySem.boot_len (pa_cons (pe_ix (r := rIxT K) ix_tup (pv 0) (pv 7) (fun _ _ => rfl)) pa_nil))) (nomark _)))) (fun _ _ _ _ _ => (pv 7))) (pe_lst (pa_cons (pe_callB call_len_seq (by rfl) T.n_len PySem.boot_len (pa_cons (pv 0) pa_nil)) pa_nil))))
      (pss_cons (ps_set (i := 5) sc_law_page_parts.nd rfl (.inl rfl) (pe_slice sl_tupA (pv 0) (po_some (pe_ix ix_list (pv 4) pe_int (fun _ _ => rfl))) (po_some (pe_op op_add (pe_ix ix_list (pv 4) pe_int (fun _ _ => rfl)) pe_int))))
      (Evl.pss_cut (ps_if (pt_cmpR op_gt (pe_ix ix_list (pv 4) pe_int (fun _ _ => rfl)) pe_int (nomark _)) (pss_one (ps_set (i := 5) sc_law_page_parts.nd rfl (.inl rfl) (pe_op op_catA (pe_ix ix_tup (pe_call G_draw (hr.mono (by decide)) (by rfl) T.D_draw.G T.D_draw.F.kp T.D_draw.B .nil pass0 (pa_cons (pe_tup (pa_cons pe_str pa_nil)) (pa_cons (pe_tup (pa_cons (pe_slice sl_tupA (pv 0) po_none (po_some (pe_ix ix_list (pv 4) pe_int (fun _ _ => rfl)))) pa_nil)) pa_nil))) pe_int (fun _ _ => rfl)) (pv 5)))) pss_nil)
      (Evl.pss_cut (ps_if (pt_cmpR op_lt (pe_op op_add (pe_ix ix_list (pv 4) pe_int (fun _ _ => rfl)) pe_int) (pe_callB call_len_seq (by rfl) T.n_len PySem.boot_len (pa_cons (pv 0) pa_nil)) (nomark _)) (pss_one (ps_set (i := 5) sc_law_page_parts.nd rfl (.inl rfl) (pe_op op_catA (pv 5) (pe_ix ix_tup (pe_call G_draw (hr.mono (by decide)) (by rfl) T.D_draw.G T.D_draw.F.kp T.D_draw.B .nil pass0 (pa_cons (pe_tup (pa_cons pe_str pa_nil)) (pa_cons (pe_tup (pa_cons (pe_slice sl_tupA (pv 0) (po_some (pe_op op_add (pe_ix ix_list (pv 4) pe_int (fun _ _ => rfl)) pe_int)) po_none) pa_nil)) pa_nil))) pe_int (fun _ _ => rfl))))) pss_nil)
      (pss_one (ps_ret (pe_call G_law_exact (hr.mono (by decide)) (by rfl) T.D_law_exact.G T.D_law_exact.F.kp T.D_law_exact.B .nil pass0 (pa_cons (pe_call G_draw (hr.mono (by decide)) (by rfl) T.D_draw.G T.D_draw.F.kp T.D_draw.B .nil pass0 (pa_cons (pe_tup (pa_cons pe_str pa_nil)) (pa_cons (pe_tup (pa_cons (pv 0) pa_nil)) pa_nil))) (pa_cons (pe_tup (pa_cons (pv 5) pa_nil)) pa_nil))))))))))))))), ?_⟩
    refine ⟨_, rfl, b, rfl, ⟨_, SqT.of eb⟩, lc_map (K := K) (R := sgR) (S := sgR) (f := wholeN) eb (LV.of_signs _ _) (by omega) sgR.mn (fun j y r H1 QQ NN k1 hy er hyr hQ => ?_) fun D H1 zs nD k1 eD lz => ?_⟩
    · have hyr : y = sV r := hyr
      subst hyr
      have rl := ok.2 r (List.mem_of_getElem? er)
      have wh : V.str (Txt.mul ("#" : Str) (((mkS r).length : Nat) : Int)) = sV (wholeN r) := by rw [hash_mk, mkS_len, mul_sign]; rfl
      exact ⟨rfl, _, rfl, mkS r, rfl, by rw [mkS_len]; exact big_ok (by omega), _, _, rfl, rfl, by rw [mkS_len]; exact mul_okN (by omega) (by decide), hQ _ _ (Same.refl _) wh⟩
    refine ⟨D, _, rfl, .inl ⟨SqL.of eD, fun W nW => ?_⟩⟩
    have s2 := same_upd (o := .tup zs) k1 nW
    have hW : PgR (upd H1 W (.tup zs)) (.ref W) (p.map wholeN) := TupR.new sgR.mn lz nW
    generalize upd H1 W (.tup zs) = H2 at s2 hW
    obtain ⟨_, ew, eW⟩ := PgR.iff.mp hW
    obtain rfl := V.ref.inj ew
    -- hit
    refine ⟨_, rfl, b, _, rfl, .inr (SqT.of (s2 _ _ eb)), (p.length : Int), by rw [List.length_map], by omega, by omega, ?_⟩
    rw [toNat_k]
    refine lc_fil walk_rangeN (p := fun r => hasC (p.getD r [])) (f := nV) (fun _ _ => trivial) (by omega) (fun i H3 QQ NN hi k3 hy hn => ?_) fun B H3 nB k3 eB => ?_
    · refine ⟨rfl, _, rfl, _, rfl, b, _, (i : Int), _, rfl, rfl, SqT.of (k3 _ _ (s2 _ _ eb)), atI_nat (pg_at hi), 35, mkS (p.getD i []), by rw [hash_mk]; rfl, rfl, hasC (p.getD i []), congrArg V.bl (in_hash _), ?_⟩
      by_cases c : hasC (p.getD i []) = true
      · rw [c]
        exact ⟨_, rfl, hy c _ _ (Same.refl _) rfl⟩
      · rw [Bool.eq_false_iff.mpr c]
        exact hn (Bool.eq_false_iff.mpr c) _ (Same.refl _)
    have eB : H3 B = some (.lst ((hitsP hasC p).map nV)) := eB
    have s3 := s2.trans k3
    have eW3 := k3 _ _ eW
    have pg3 : PgR H3 (.ref b) p := PgR.iff.mpr ⟨b, rfl, s3 _ _ eb⟩
    -- all
    refine ⟨one, fun p1 np1 => ⟨_, rfl, one, fun p2 np2 => ?_⟩⟩
    have s4 := same_upd (o := .tup [V.str ("all" : Str)]) (Same.refl H3) np1
    have st4 : StpR (upd H3 p1 (.tup [V.str ("all" : Str)])) (.ref p1) (7, 1) := stp_1 (by decide) rfl
    generalize upd H3 p1 (.tup [V.str ("all" : Str)]) = H4 at s4 st4 np2
    obtain ⟨s5, l5⟩ := lk_page (PgR.mn.to pg3 (TK.same s4)) np2
    generalize upd H4 p2 (.tup [V.ref b]) = H5 at s5 l5
    refine ⟨.ref p1, .ref p2, (7, 1), [p], rfl, StpR.mn.to st4 (TK.same s5), stOk (by omega) (by omega) (by omega), l5, page_ok ok, fun H6 u6 s6 hu6 => ?_⟩
    have hu6 : LkR H6 u6 [p.map wholeN] := hu6
    have s36 := s4.trans (s5.trans s6)
    have hW6 : PgR H6 (.ref W) (p.map wholeN) := PgR.iff.mpr ⟨W, rfl, s36 _ _ eW3⟩
    refine ⟨_, rfl, one, fun p3 np3 => ?_⟩
    obtain ⟨s7, l7⟩ := lk_page hW6 np3
    generalize upd H6 p3 (.tup [V.ref W]) = H7 at s7 l7
    refine ⟨_, _, rfl, lk_eqv (LkR.mn.to hu6 (TK.same s7)) l7 (page_ok aok), true, rfl, ?_⟩
    have s37 := s36.trans s7
    have s07 := s3.trans s37
    have eB7 := s37 _ _ eB
    have eW7 := s37 _ _ eW3
    have eb7 := s07 _ _ eb
    have hcs := hitsP_cases hasC p
    -- pages
    refine ⟨fun σ' H' => σ' = [some (.ref b), some (.ref W), some (.ref B), none, none, none, none, none] ∧ Same H7 H', ?_, ?_⟩
    · refine ⟨one, fun p1 np1 => ⟨_, rfl, one, fun p2 np2 => ?_⟩⟩
      have s4 := same_upd (o := .tup [V.str ("pages" : Str)]) (Same.refl H7) np1
      have st4 : StpR (upd H7 p1 (.tup [V.str ("pages" : Str)])) (.ref p1) (5, 1) := stp_1 (by decide) rfl
      generalize upd H7 p1 (.tup [V.str ("pages" : Str)]) = H8 at s4 st4 np2
      obtain ⟨s5, l5⟩ := lk_page (v := .ref b) (pg := p) (PgR.iff.mpr ⟨b, rfl, s4 _ _ eb7⟩) np2
      generalize upd H8 p2 (.tup [V.ref b]) = H9 at s5 l5
      refine ⟨.ref p1, .ref p2, (5, 1), [p], rfl, StpR.mn.to st4 (TK.same s5), stOk (by omega) (by omega) (by omega), l5, page_ok ok, fun H10 u s6 hu => ?_⟩
      have hu : LkR H10 u [pagesN p] := hu
      have s710 := s4.trans (s5.trans s6)
      rcases hcs with ⟨hc, hf⟩ | ⟨t, hc, hf⟩
      · have no : p.any hasC = false := by
          cases z : p.any hasC with
          | false => rfl
          | true =>
            obtain ⟨k, hk, e⟩ := any_at.mp z
            have : k ∈ hitsP hasC p := List.mem_filter.mpr ⟨List.mem_range.mpr hk, e⟩
            rw [hc] at this; cases this
        refine ⟨_, rfl, false, .inl ⟨_, SqL.of (s710 _ _ eB7), by rw [hc]; rfl⟩, _, rfl, one, fun p3 np3 => ?_⟩
        obtain ⟨s7, l7⟩ := lk_page (v := .ref b) (pg := p) (PgR.iff.mpr ⟨b, rfl, s710 _ _ eb7⟩) np3
        generalize upd H10 p3 (.tup [V.ref b]) = H11 at s7 l7
        rw [pages_PG.none p no] at hu
        exact ⟨_, _, rfl, lk_eqv (LkR.mn.to hu (TK.same s7)) l7 (page_ok ok), true, rfl, rfl, s710.trans s7⟩
      · have yes : p.any hasC = true := any_at.mpr ⟨p.findIdx hasC, hf, by rw [List.getD_eq_getElem?_getD, List.getElem?_eq_getElem hf]; exact List.findIdx_getElem (w := hf)⟩
        refine ⟨_, rfl, true, .inl ⟨_, SqL.of (s710 _ _ eB7), by rw [hc]; rfl⟩, _, rfl, one, fun p3 np3 => ?_⟩
        obtain ⟨s7, l7⟩ := lk_page (v := .ref W) (pg := p.map wholeN) (PgR.iff.mpr ⟨W, rfl, s710 _ _ eW7⟩) np3
        generalize upd H10 p3 (.tup [V.ref W]) = H11 at s7 l7
        have hu : LkR H10 u [p.map wholeN] := by
          have e : pagesN p = p.map wholeN := by unfold pagesN; rw [if_pos yes]
          rw [← e]; exact hu
        exact ⟨_, _, rfl, lk_eqv (LkR.mn.to hu (TK.same s7)) l7 (page_ok aok), true, rfl, rfl, s710.trans s7⟩
    rintro σ1 H8 ⟨rfl, k8⟩
    have eb8 := k8 _ _ eb7
    have eB8 := k8 _ _ eB7
    have eW8 := k8 _ _ eW7
    -- the first row with a cover
    refine ⟨fun σ' H' => σ' = [some (.ref b), some (.ref W), some (.ref B), some (nV (frstP p)), none, none, none, none] ∧ Same H8 H', ?_, ?_⟩
    · rcases hcs with ⟨hc, hf⟩ | ⟨t, hc, hf⟩
      · refine ⟨_, rfl, false, .inl ⟨_, SqL.of eB8, by rw [hc]; rfl⟩, _, rfl, b, _, rfl, .inr (SqT.of eb8), ?_⟩
        exact ⟨by rw [List.length_map, ← hf]; rfl, Same.refl _⟩
      · refine ⟨_, rfl, true, .inl ⟨_, SqL.of eB8, by rw [hc]; rfl⟩, _, rfl, B, _, 0, _, rfl, rfl, SqL.of eB8, atI_nat (j := 0) (by rw [hc]; rfl), ?_⟩
        exact ⟨rfl, Same.refl _⟩
    rintro σ2 H9 ⟨rfl, k9⟩
    have eb9 := k9 _ _ eb8
    have eW9 := k9 _ _ eW8
    have fle := frstP_le p
    -- below
    refine ⟨one, fun p1 np1 => ⟨_, rfl, one, fun p2 np2 => ?_⟩⟩
    have s10 := same_upd (o := .tup [V.str ("below" : Str)]) (Same.refl H9) np1
    have st10 : StpR (upd H9 p1 (.tup [V.str ("below" : Str)])) (.ref p1) (6, 1) := stp_1 (by decide) rfl
    generalize upd H9 p1 (.tup [V.str ("below" : Str)]) = H10 at s10 st10 np2
    obtain ⟨s11, l11⟩ := lk_page (v := .ref b) (pg := p) (PgR.iff.mpr ⟨b, rfl, s10 _ _ eb9⟩) np2
    generalize upd H10 p2 (.tup [V.ref b]) = H11 at s11 l11
    refine ⟨.ref p1, .ref p2, (6, 1), [p], rfl, StpR.mn.to st10 (TK.same s11), stOk (by omega) (by omega) (by omega), l11, page_ok ok, fun H12 u12 s12 hu12 => ?_⟩
    have hu12 : LkR H12 u12 [p.take (frstP p) ++ (p.map wholeN).drop (frstP p)] := by rw [← below_one]; exact hu12
    have s912 := s10.trans (s11.trans s12)
    refine ⟨_, rfl, _, rfl, _, rfl, slA_any (s912 _ _ eb9) fun c1 H13 s13 ec1 => ?_⟩
    rw [cut_take] at ec1
    refine ⟨_, rfl, _, rfl, _, rfl, slA_from ((s912.trans s13) _ _ eW9) fun c2 H14 s14 ec2 => ?_⟩
    rw [cut_dr _ (b := frstP p) (by rw [List.length_map, List.length_map]; exact fle) rfl] at ec2
    refine catA_any (s14 _ _ ec1) ec2 (by rw [List.length_take, List.length_drop, List.length_map, List.length_map, List.length_map]; omega) fun c3 H15 s15 ec3 => ?_
    refine ⟨one, fun p3 np3 => ?_⟩
    have hc3 : PgR H15 (.ref c3) (p.take (frstP p) ++ (p.map wholeN).drop (frstP p)) := pg_of ec3 (by rw [List.map_append, List.map_take, List.map_drop])
    obtain ⟨s16, l16⟩ := lk_page hc3 np3
    generalize upd H15 p3 (.tup [V.ref c3]) = H16 at s16 l16
    have okb : PgOk (p.take (frstP p) ++ (p.map wholeN).drop (frstP p)) := by
      have h := drawN_ok (k := 6) (n := 1) (by omega) (page_ok ok)
      exact h.2 _ (by show _ ∈ belowN [p]; rw [below_one]; exact List.mem_singleton.mpr rfl)
    have s1216 := s13.trans (s14.trans (s15.trans s16))
    refine ⟨_, _, rfl, lk_eqv (LkR.mn.to hu12 (TK.same s1216)) l16 (page_ok okb), true, rfl, ?_⟩
    have s916 := s912.trans s1216
    have eb16 := s916 _ _ eb9
    -- the blank rows
    refine ⟨_, rfl, b, _, rfl, .inr (SqT.of eb16), (p.length : Int), by rw [List.length_map], by omega, by omega, ?_⟩
    rw [toNat_k]
    refine lc_fil walk_rangeN (p := fun r => blankN (p.getD r [])) (f := nV) (fun _ _ => trivial) (by omega) (fun i H3 QQ NN hi k3 hy hn => ?_) fun C H17 nC k17 eC => ?_
    · have hz := ok.2 _ (getD_mem (d := []) hi)
      have pa := pg_at hi
      have eb3 := k3 _ _ eb16
      have zr : (mkS (p.getD i [])).length ≤ sizeLine := by rw [mkS_len]; exact big_ok (by omega)
      refine ⟨rfl, _, rfl, _, rfl, b, _, (i : Int), _, rfl, rfl, SqT.of eb3, atI_nat pa, _, rfl, _, rfl, b, _, (i : Int), _, rfl, rfl, SqT.of eb3, atI_nat pa, mkS (p.getD i []), rfl, zr, _, _, rfl, rfl, by rw [mkS_len]; exact mul_okN (by omega) (by decide), rfl, blankN (p.getD i []), by rw [blank_mk, mkS_len, mul_sign]; exact congrArg V.bl (dec_blank _ _ rfl), ?_⟩
      by_cases c : blankN (p.getD i []) = true
      · rw [c]
        exact ⟨_, rfl, hy c _ _ (Same.refl _) rfl⟩
      · rw [Bool.eq_false_iff.mpr c]
        exact hn (Bool.eq_false_iff.mpr c) _ (Same.refl _)
    have eC : H17 C = some (.lst ((hitsP blankN p).map nV)) := eC
    have eb17 := k17 _ _ eb16
    refine ⟨_, rfl, b, _, rfl, .inr (SqT.of eb17), one, fun c4 nc4 => ?_⟩
    have s18 := same_upd (o := .lst [nV (p.map sV).length]) (Same.refl H17) nc4
    have eC18 := s18 _ _ eC
    have e418 : upd H17 c4 (.lst [nV (p.map sV).length]) c4 = some (.lst [nV (p.map sV).length]) := upd_same
    generalize hX : upd H17 c4 (.lst [nV (p.map sV).length]) = H18 at s18 eC18 e418
    have hx : upd H17 c4 (.lst [V.int (((p.map sV).length : Nat) : Int)]) = H18 := hX
    rw [hx]
    refine ⟨C, c4, _, _, rfl, rfl, eC18, e418, Nat.le_of_lt (szN (by unfold hitsP; rw [List.length_map]; have := List.length_filter_le (fun r => blankN (p.getD r [])) (List.range p.length); rw [List.length_range] at this; show _ + 1 < _; omega)), fun c5 nc5 => ?_⟩
    have s19 := same_upd (o := .lst ((hitsP blankN p).map nV ++ [nV (p.map sV).length])) (Same.refl H18) nc5
    have e519 : upd H18 c5 (.lst ((hitsP blankN p).map nV ++ [nV (p.map sV).length])) c5 = _ := upd_same
    generalize upd H18 c5 (.lst ((hitsP blankN p).map nV ++ [nV (p.map sV).length])) = H19 at s19 e519
    have h0 : ((hitsP blankN p).map nV ++ [nV (p.map sV).length])[0]? = some (nV (frstB p)) := by
      rcases hitsP_cases blankN p with ⟨hc, hf⟩ | ⟨t, hc, hf⟩
      · rw [hc, List.length_map, ← hf]; rfl
      · rw [hc]; rfl
    generalize (hitsP blankN p).map nV ++ [nV (p.map sV).length] = bl at e519 h0
    have k19 := s916.trans (k17.trans (s18.trans s19))
    have eb19 := k19 _ _ eb9
    have s019 := (s07.trans k8).trans (k9.trans k19)
    have ble := frstB_le p
    have lm : (p.map sV).length = p.length := List.length_map _
    refine ⟨_, rfl, _, rfl, c5, _, 0, _, rfl, rfl, SqL.of e519, atI_nat (j := 0) h0, _, rfl, _, rfl, c5, _, 0, _, rfl, rfl, SqL.of e519, atI_nat (j := 0) h0, _, _, rfl, rfl, _, rfl, slA_any eb19 fun d1 H20 s20 ed1 => ?_⟩
    rw [cut_1 _ (by rw [lm]; exact ble) (by omega)] at ed1
    have ed1 : H20 d1 = some (.tup (((p.drop (frstB p)).take 1).map sV)) := by rw [ed1, List.map_take, List.map_drop]
    have l1 : ((p.drop (frstB p)).take 1).length ≤ 1 := by rw [List.length_take]; omega
    generalize hd1 : (p.drop (frstB p)).take 1 = D1 at ed1 l1
    have eb20 := s20 _ _ eb19
    have e520 := s20 _ _ e519
    -- what stands above the blank row
    refine ⟨fun σ' H' => ∃ d2, σ' = [some (.ref b), some (.ref W), some (.ref B), some (nV (frstP p)), some (.ref c5), some (.ref d2), none, none] ∧ Same H20 H' ∧ H' d2 = some (.tup (((if 0 < frstB p then pagesN (p.take (frstB p)) else []) ++ D1).map sV)), ?_, ?_⟩
    · refine ⟨_, rfl, c5, _, 0, _, rfl, rfl, SqL.of e520, atI_nat (j := 0) h0, _, _, rfl, rfl, _, rfl, ?_⟩
      by_cases c : 0 < frstB p
      · rw [show decide ((0 : Int) < ((frstB p : Nat) : Int)) = true from decide_eq_true (by omega), if_pos c]
        refine ⟨one, fun p1 np1 => ?_⟩
        have s21 := same_upd (o := .tup [V.str ("pages" : Str)]) (Same.refl H20) np1
        have st21 : StpR (upd H20 p1 (.tup [V.str ("pages" : Str)])) (.ref p1) (5, 1) := stp_1 (by decide) rfl
        generalize upd H20 p1 (.tup [V.str ("pages" : Str)]) = H21 at s21 st21
        refine ⟨_, rfl, _, rfl, c5, _, 0, _, rfl, rfl, SqL.of (s21 _ _ e520), atI_nat (j := 0) h0, _, rfl, slA_any (s21 _ _ eb20) fun d2 H22 s22 ed2 => ?_⟩
        rw [cut_take] at ed2
        refine ⟨one, fun p2 np2 => ?_⟩
        have okt : PgOk (p.take (frstB p)) := ⟨by rw [List.length_take]; omega, fun r hr => ok.2 r (List.mem_of_mem_take hr)⟩
        obtain ⟨s23, l23⟩ := lk_page (v := .ref d2) (pg := p.take (frstB p)) (pg_of ed2 (by rw [List.map_take])) np2
        generalize upd H22 p2 (.tup [V.ref d2]) = H23 at s23 l23
        refine ⟨.ref p1, .ref p2, (5, 1), _, rfl, StpR.mn.to st21 (TK.same (s22.trans s23)), stOk (by omega) (by omega) (by omega), l23, page_ok okt, fun H24 u s24 hu => ?_⟩
        have hu : LkR H24 u [pagesN (p.take (frstB p))] := hu
        obtain ⟨ya, yb, rfl, e1, e2⟩ := lk_get hu
        have s2024 := s21.trans (s22.trans (s23.trans s24))
        have pl := (pages_PG.ok okt).1
        refine ⟨ya, _, 0, _, rfl, rfl, SqT.of e1, atI_nat (j := 0) rfl, _, rfl, catA_any e2 (s2024 _ _ ed1) (by rw [List.length_map, List.length_map]; omega) fun d3 H25 s25 ed3 => ?_⟩
        exact ⟨d3, rfl, s2024.trans s25, by rw [ed3, List.map_append]⟩
      · rw [show decide ((0 : Int) < ((frstB p : Nat) : Int)) = false from decide_eq_false (by omega), if_neg c]
        exact ⟨d1, rfl, Same.refl _, by rw [List.nil_append]; exact ed1⟩
    rintro σ3 H26 ⟨d2, rfl, s26, ed2⟩
    have eb26 := s26 _ _ eb20
    have e526 := s26 _ _ e520
    have bp := blocks_parts p
    rw [hd1] at bp
    have okA : ((if 0 < frstB p then pagesN (p.take (frstB p)) else []) ++ D1).length ≤ 300 := by
      rw [List.length_append]
      split
      · rw [pages_PG.len, List.length_take]; omega
      · show 0 + _ ≤ _; omega
    rw [← List.append_assoc] at bp
    generalize (if 0 < frstB p then pagesN (p.take (frstB p)) else []) ++ D1 = D2 at ed2 bp okA
    refine ⟨fun σ' H' => ∃ d3, σ' = [some (.ref b), some (.ref W), some (.ref B), some (nV (frstP p)), some (.ref c5), some (.ref d3), none, none] ∧ Same H26 H' ∧ H' d3 = some (.tup ((blocksN p).map sV)), ?_, ?_⟩
    · refine ⟨_, rfl, c5, _, 0, _, rfl, rfl, SqL.of e526, atI_nat (j := 0) h0, _, _, rfl, rfl, _, rfl, b, _, rfl, .inr (SqT.of eb26), _, _, rfl, rfl, _, rfl, ?_⟩
      by_cases c : frstB p + 1 < p.length
      · rw [show decide (((frstB p : Nat) : Int) + 1 < (((p.map sV).length : Nat) : Int)) = true from decide_eq_true (by rw [lm]; omega)]
        rw [if_pos c] at bp
        refine ⟨_, rfl, one, fun p1 np1 => ?_⟩
        have s21 := same_upd (o := .tup [V.str ("blocks" : Str)]) (Same.refl H26) np1
        have st21 : StpR (upd H26 p1 (.tup [V.str ("blocks" : Str)])) (.ref p1) (4, 1) := stp_1 (by decide) rfl
        generalize upd H26 p1 (.tup [V.str ("blocks" : Str)]) = H21 at s21 st21
        refine ⟨_, rfl, _, rfl, c5, _, 0, _, rfl, rfl, SqL.of (s21 _ _ e526), atI_nat (j := 0) h0, _, _, rfl, rfl, _, rfl, slA_from (s21 _ _ eb26) fun d4 H22 s22 ed4 => ?_⟩
        rw [cut_dr _ (b := frstB p + 1) (by rw [lm]; omega) (by omega)] at ed4
        refine ⟨one, fun p2 np2 => ?_⟩
        have okt : PgOk (p.drop (frstB p + 1)) := ⟨by rw [List.length_drop]; omega, fun r hr => ok.2 r (List.mem_of_mem_drop hr)⟩
        obtain ⟨s23, l23⟩ := lk_page (v := .ref d4) (pg := p.drop (frstB p + 1)) (pg_of ed4 (by rw [List.map_drop])) np2
        generalize upd H22 p2 (.tup [V.ref d4]) = H23 at s23 l23
        refine ⟨.ref p1, .ref p2, (4, 1), _, rfl, StpR.mn.to st21 (TK.same (s22.trans s23)), stOk (by omega) (by omega) (by omega), l23, page_ok okt, fun H24 u s24 hu => ?_⟩
        have hu : LkR H24 u [blocksN (p.drop (frstB p + 1))] := hu
        obtain ⟨ya, yb, rfl, e1, e2⟩ := lk_get hu
        have s2024 := s21.trans (s22.trans (s23.trans s24))
        have pl := (blocks_PG.ok okt).1
        refine ⟨ya, _, 0, _, rfl, rfl, SqT.of e1, atI_nat (j := 0) rfl, catA_any (s2024 _ _ ed2) e2 (by rw [List.length_map, List.length_map]; omega) fun d3 H25 s25 ed3 => ?_⟩
        exact ⟨d3, rfl, s2024.trans s25, by rw [ed3, bp, List.map_append]⟩
      · rw [show decide (((frstB p : Nat) : Int) + 1 < (((p.map sV).length : Nat) : Int)) = false from decide_eq_false (by rw [lm]; omega)]
        rw [if_neg c, List.append_nil] at bp
        exact ⟨d2, rfl, Same.refl _, by rw [bp]; exact ed2⟩
    rintro σ4 H27 ⟨d3, rfl, s27, ed3⟩
    have eb27 := s27 _ _ eb26
    refine ⟨one, fun p1 np1 => ⟨_, rfl, one, fun p2 np2 => ?_⟩⟩
    have s28 := same_upd (o := .tup [V.str ("blocks" : Str)]) (Same.refl H27) np1
    have st28 : StpR (upd H27 p1 (.tup [V.str ("blocks" : Str)])) (.ref p1) (4, 1) := stp_1 (by decide) rfl
    generalize upd H27 p1 (.tup [V.str ("blocks" : Str)]) = H28 at s28 st28 np2
    obtain ⟨s29, l29⟩ := lk_page (v := .ref b) (pg := p) (PgR.iff.mpr ⟨b, rfl, s28 _ _ eb27⟩) np2
    generalize upd H28 p2 (.tup [V.ref b]) = H29 at s29 l29
    refine ⟨.ref p1, .ref p2, (4, 1), [p], rfl, StpR.mn.to st28 (TK.same s29), stOk (by omega) (by omega) (by omega), l29, page_ok ok, fun H30 u s30 hu => ?_⟩
    have hu : LkR H30 u [blocksN p] := hu
    have s2730 := s28.trans (s29.trans s30)
    refine ⟨_, rfl, one, fun p3 np3 => ?_⟩
    obtain ⟨s31, l31⟩ := lk_page (v := .ref d3) (pg := blocksN p) (PgR.iff.mpr ⟨d3, rfl, s2730 _ _ ed3⟩) np3
    generalize upd H30 p3 (.tup [V.ref d3]) = H31 at s31 l31
    exact ⟨_, _, rfl, lk_eqv (LkR.mn.to hu (TK.same s31)) l31 (page_ok (blocks_PG.ok ok)), q _ (s019.trans (s20.trans (s26.trans (s27.trans (s2730.trans s31)))))⟩
end
end Vf

set_option Elab.async false
set_option linter.all false
set_option maxRecDepth 100000
set_option maxHeartbeats 4000000
namespace Vf
open PySem PySem.Spec PyProof.Rows L2 TL
def rJn (K : PySem.W.Frag) (x : V) (xs : List V) (H : Hp) (Q : VK) : Prop :=
  ∃ (a : Str) (p : Addr) (ys : List Str),
    x = .str a ∧ xs = [.ref p] ∧
    (SqL K H p (ys.map V.str) ∨ SqT K H p (ys.map V.str)) ∧
    (ys.map (·.length)).sum + ys.length * a.length ≤ 16777216 ∧
    Q (.str (Txt.join a ys)) H
theorem mt_joinK {X : Cx} {K : PySem.W.Frag} (hK : X.K = K) : MtR X "str.join" (rJn K) := by
  subst hK
  exact mt_join
theorem LV.dropN {α : Type} {R : V → α → Prop} {vs : List V} {rs : List α} (n : Nat) (h : LV R vs rs) : LV R (vs.drop n) (rs.drop n) := by
  refine ⟨by rw [List.length_drop, List.length_drop, h.1], fun i r e => ?_⟩
  rw [List.getElem?_drop] at e
  obtain ⟨x, e1, e2⟩ := h.2 _ r e
  exact ⟨x, by rw [List.getElem?_drop]; exact e1, e2⟩
theorem nm_in4 : ∀ k, k < 8 → inV (V.str (nmS k)) [V.str ("wide" : Str), V.str ("even" : Str), V.str ("rows" : Str), V.str ("all" : Str)] = decide (k = 0 ∨ k = 1 ∨ k = 3 ∨ k = 7) := by decide +kernel
def rkN (k n : Nat) : Rw → Rw := match k with | 0 => wideN n | 1 => evenN n | 3 => rowsN | _ => wholeN
theorem draw_rk {k n : Nat} (h : k = 0 ∨ k = 1 ∨ k = 3 ∨ k = 7) (p : Pg) : drawN k n [p] = [p.map (rkN k n)] := by
  rcases h with rfl | rfl | rfl | rfl <;> rfl
theorem draw_one {k n : Nat} (hk : k < 8) (h2 : k ≠ 2) (p : Pg) : (drawN k n [p]).length = 1 := by
  match k, hk, h2 with
  | 0, _, _ => rfl
  | 1, _, _ => rfl
  | 3, _, _ => rfl
  | 4, _, _ => rfl
  | 5, _, _ => rfl
  | 6, _, _ => exact bel_len [p]
  | 7, _, _ => rfl
  | 2, _, h => exact absurd rfl h
theorem lk_cat {H H' : Hp} {c : Addr} {us ws : List V} {l m : List Pg} (h1 : LV (PgR H) us l) (h2 : LV (PgR H) ws m) (s : Same H H') (e : H' c = some (.tup (us ++ ws))) : LkR H' (.ref c) (l ++ m) :=
  ⟨c, _, rfl, e, (h1.app2 h2).mono fun _ _ z => PgR.mn.to z (TK.same s)⟩
theorem join_has (p : Pg) : decide ((35 : Nat) ∈ (mkS p.flatten).cps.toList) = pgC p := by
  show decide (35 ∈ p.flatten) = p.any hasC
  refine bool_ext ?_
  rw [decide_eq_true_eq, List.any_eq_true]
  constructor
  · intro h
    obtain ⟨r, hr, hc⟩ := List.mem_flatten.mp h
    exact ⟨r, hr, decide_eq_true hc⟩
  · rintro ⟨r, hr, hc⟩
    exact List.mem_flatten.mpr ⟨r, hr, of_decide_eq_true hc⟩
theorem fil_any (l : List Pg) : ((List.range l.length).filter fun i => pgC (l.getD i [])) = [] ↔ l.any pgC = false := by
  rw [List.filter_eq_nil_iff, List.any_eq_false]
  constructor
  · intro h p hp
    obtain ⟨i, hi, e⟩ := mem_at hp
    have := h i (List.mem_range.mpr hi)
    rw [getD_of e] at this
    exact this
  · intro h i hi
    exact h _ (getD_mem (List.mem_range.mp hi))
section
variable {P : Program} {w : World} {K : PySem.W.Frag} {mg : Str → Option Value} {base : Heap}
def spBy : Sp := fun vs H Q _ => ∃ (S : Addr) (lv : V) (lk : List Pg) (svs : List V) (sts : List (Nat × Nat)), vs = [lv, .ref S] ∧ LkR H lv lk ∧ LkOk lk ∧ SlR H S svs sts ∧ StsOk sts ∧ ∀ H', Same H H' → Q (.bl true) H'
theorem ok_byP (T : Txt K mg) : FnOk P w K mg base CX0 5 T.a_law_by_parts T.d_law_by_parts ["_law_look", "_law_steps"] spBy := by
  have G_draw : FnOk P w K mg base CX0 4 T.a_draw T.d_draw ["step", "look"] spDue := ok_drawS T
  have G_law_exact : FnOk P w K mg base CX0 4 T.a_law_exact T.d_law_exact ["_law_told", "_law_due"] (spExact 3) := ok_exact T 3
  refine T.D_law_by_parts.F.ok sc_law_by_parts (fun vs H Q E h => ?_) (fun cdv A outer s H vs Q E hr h => ?_)
  · obtain ⟨S, lv, lk, svs, sts, rfl, _⟩ := h
    rfl
  · obtain ⟨S, lv, lk, svs, sts, rfl, hlk, hok, hS, oS, q⟩ := h
    obtain ⟨a, us, rfl, ea, lu⟩ := hlk
    have hlk : LkR H (.ref a) lk := ⟨a, us, rfl, ea, lu⟩
    have l200 := hok.1
    have lul := lu.1
    have one : (1 : Nat) ≤ sizeLine := big_ok (by omega)
    refine ⟨_, (pss_cons (ps_for PassesOwn.never rfl (pi_list (pv 1)) (pg_name (i := 2) sc_law_by_parts.nd rfl (.inr rfl)) (pss_cons (ps_set (i := 3) sc_law_by_parts.nd rfl (.inl rfl) (pe_call G_draw (hr.mono (by decide)) (by rfl) T.D_draw.G T.D_draw.F.kp T.D_draw.B .nil pass0 (pa_cons (pv 2) (pa_cons (pv 0) pa_nil))))
      (pss_cons (ps_set (i := 4) sc_law_by_parts.nd rfl (.inl rfl) (pe_tup pa_nil))
      (pss_cons (ps_for PassesOwn.never rfl (pi_tup (pv 0)) (pg_name (i := 5) sc_law_by_parts.nd rfl (.inl rfl)) (pss_cons (ps_set (i := 6) sc_law_by_parts.nd rfl (.inl rfl) (pe_call G_draw (hr.mono (by decide)) (by rfl) T.D_draw.G T.D_draw.F.kp T.D_draw.B .nil pass0 (pa_cons (pv 2) (pa_cons (pe_tup (pa_cons (pv 5) pa_nil)) pa_nil))))
      (Evl.pss_cut (ps_if (pt_cmpR op_in_seq (pe_ix ix_tup (pv 2) pe_int (fun _ _ => rfl)) (pe_tup (pa_cons pe_str (pa_cons pe_str (pa_cons pe_str (pa_cons pe_str pa_nil))))) (by rfl)) (pss_cons (ps_set (i := 7) sc_law_by_parts.nd rfl (.inl rfl) (pe_callTy call_tuple_of (by rfl) T.n_tuple (by decide +kernel) (pa_cons (pe_lc (own := [("_law_row", 12)]) (g := gName 12) (tt := tYes) rfl sc_law_by_parts.nd (pi_tup (pv 5)) (blkOk_by (own := [("_law_row", 12)]) (N := ["_law_look", "_law_steps", "_law_step", "_law_told", "_law_found", "_law_page", "_law_one", "_law_rows", "_law_whole", "_law_k", "_law_met", "_law_rest", "_law_row"]) (sc := (defScope s_law_by_parts)) (by decide +kernel)) (fun _ _ _ _ _ => (pg_name (i := 12) sc_law_by_parts.nd rfl (.inl rfl))) (fun _ _ _ _ _ => pts_nil) (fun _ _ _ _ _ => (pe_ix (r := rIxT K) ix_tup (pe_ix (r := rIxT K) ix_tup (pe_call G_draw (hr.mono (by decide)) (by rfl) T.D_draw.G T.D_draw.F.kp T.D_draw.B .nil pass0 (pa_cons (pv 2) (pa_cons (pe_tup (pa_cons (pe_tup (pa_cons (pv 12) pa_nil)) pa_nil)) pa_nil))) pe_int (fun _ _ => rfl)) pe_int (fun _ _ => rfl)))) pa_nil)))
      (pss_one (ps_if (pt_not (pt_val (pe_call G_law_exact (hr.mono (by decide)) (by rfl) T.D_law_exact.G T.D_law_exact.F.kp T.D_law_exact.B .nil pass0 (pa_cons (pv 6) (pa_cons (pe_tup (pa_cons (pv 7) pa_nil)) pa_nil))))) (pss_one (ps_ret pe_bl)) pss_nil))) pss_nil)
      (pss_one (ps_set (i := 4) sc_law_by_parts.nd rfl (.inl rfl) (pe_op op_catA (pv 4) (pv 6)))))))
      (pss_one (ps_if (PW.pt (pw_and (pt_cmpR op_ne (pe_ix ix_tup (pv 2) pe_int (fun _ _ => rfl)) pe_str (nomark _)) (pw_and1 (pt_not (pt_val (pe_call G_law_exact (hr.mono (by decide)) (by rfl) T.D_law_exact.G T.D_law_exact.F.kp T.D_law_exact.B .nil pass0 (pa_cons (pv 3) (pa_cons (pv 4) pa_nil)))))))) (pss_one (ps_ret pe_bl)) pss_nil))))))
      (pss_cons (ps_set (i := 8) sc_law_by_parts.nd rfl (.inl rfl) (pe_call G_draw (hr.mono (by decide)) (by rfl) T.D_draw.G T.D_draw.F.kp T.D_draw.B .nil pass0 (pa_cons (pe_tup (pa_cons pe_str pa_nil)) (pa_cons (pv 0) pa_nil))))
      (pss_cons (ps_for PassesOwn.never rfl (pi_range1 (by rfl) T.n_range (pa_cons (pe_op op_add (pe_callB call_len_seq (by rfl) T.n_len PySem.boot_len (pa_cons (pv 0) pa_nil)) pe_int) pa_nil)) (pg_name (i := 9) sc_law_by_parts.nd rfl (.inl rfl)) (pss_cons (ps_setLc (i := 10) (own := [("_law_page", 5)]) (g := gName 5) rfl sc_law_by_parts.nd rfl rfl (sw_true rfl rfl rfl (by decide +kernel)) (pi_tup (pe_slice sl_tupA (pv 0) po_none (po_some (pv 9)))) (blkOk_by (own := [("_law_page", 5)]) (N := ["_law_look", "_law_steps", "_law_step", "_law_told", "_law_found", "_law_page", "_law_one", "_law_rows", "_law_whole", "_law_k", "_law_met", "_law_rest", "_law_row"]) (sc := (defScope s_law_by_parts)) (by decide +kernel)) (fun _ _ _ _ _ => (pg_name (i := 5) sc_law_by_parts.nd rfl (.inl rfl))) (fun _ _ _ _ _ => (pts_one (pt_cmpR op_in_sign pe_str (pe_m1 PySem.F.slot_str_join PySem.F.type_str_join (mt_joinK (K := K) rfl) pe_str (pv 5)) (by rfl)))) (fun _ _ _ _ _ => (pv 5)))
      (Evl.pss_cut (ps_set (i := 11) sc_law_by_parts.nd rfl (.inl rfl) (pe_ifExp (pt_truth (pv 10) (by intro _; rfl)) (pe_call G_draw (hr.mono (by decide)) (by rfl) T.D_draw.G T.D_draw.F.kp T.D_draw.B .nil pass0 (pa_cons (pe_tup (pa_cons pe_str pa_nil)) (pa_cons (pe_slice sl_tupA (pv 0) (po_some (pv 9)) po_none) pa_nil))) (pe_call G_draw (hr.mono (by decide)) (by rfl) T.D_draw.G T.D_draw.F.kp T.D_draw.B .nil pass0 (pa_cons (pe_tup (pa_cons pe_str pa_nil)) (pa_cons (pe_slice sl_tupA (pv 0) (po_some (pv 9)) po_none) pa_nil)))))
      (pss_one (ps_if (pt_not (pt_val (pe_call G_law_exact (hr.mono (by decide)) (by rfl) T.D_law_exact.G T.D_law_exact.F.kp T.D_law_exact.B .nil pass0 (pa_cons (pv 8) (pa_cons (pe_op op_catA (pe_call G_draw (hr.mono (by decide)) (by rfl) T.D_draw.G T.D_draw.F.kp T.D_draw.B .nil pass0 (pa_cons (pe_tup (pa_cons pe_str pa_nil)) (pa_cons (pe_slice sl_tupA (pv 0) po_none (po_some (pv 9))) pa_nil))) (pv 11)) pa_nil))))) (pss_one (ps_ret pe_bl)) pss_nil)))))
      (pss_one (ps_ret pe_bl))))), ?_⟩
    refine ⟨_, rfl, S, rfl, ⟨_, SqL.of hS.at_⟩, ?_⟩
    refine for_it (walk_list (K := K) (a := S) (xs := svs)) (fun i σ' H' => ∃ x2 x3 x4 x5 x6 x7 : Option V, σ' = [some (.ref a), some (.ref S), x2, x3, x4, x5, x6, x7, none, none, none, none, none] ∧ Same H H') ⟨none, none, none, none, none, none, rfl, Same.refl _⟩ ?_ ?_ ?_
    · rintro i σ1 H1 _ ⟨_, _, _, _, _, _, _, k⟩
      exact SqL.of (k _ _ hS.at_)
    · rintro i x σ1 H1 H2 hi ⟨x2, x3, x4, x5, x6, x7, rfl, k2⟩ ⟨rfl, hx⟩
      obtain ⟨⟨k, n⟩, est, hst⟩ := hS.lv.at hx
      obtain ⟨os, os2⟩ := oS.2 _ (List.mem_of_getElem? est)
      have hk : k < 8 := os.1
      have h2 : k ≠ 2 := os2
      have dok := drawN_ok (n := n) hk hok
      refine ⟨_, rfl, _, rfl, x, .ref a, (k, n), lk, rfl, StpR.mn.to hst (TK.same k2), os, LkR.mn.to hlk (TK.same k2), hok, fun H3 u s3 hu => ?_⟩
      have hu : LkR H3 u (drawN k n lk) := hu
      have k3 := k2.trans s3
      obtain ⟨sa, rfl, es⟩ := hst
      have e0 : ∃ tl, H sa = some (.tup (V.str (nmS k) :: tl)) := by
        by_cases c : k < 3
        · exact ⟨_, by rw [es]; show some (HO.tup (if k < 3 then _ else _)) = _; rw [if_pos c]⟩
        · exact ⟨_, by rw [es]; show some (HO.tup (if k < 3 then _ else _)) = _; rw [if_neg c]⟩
      obtain ⟨tl, e0⟩ := e0
      have hst : StpR H (.ref sa) (k, n) := ⟨sa, rfl, es⟩
      refine ⟨Nat.zero_le _, fun f0 nf0 => ?_⟩
      have s4 := same_upd (o := .tup []) (Same.refl H3) nf0
      have hf4 : LkR (upd H3 f0 (.tup [])) (.ref f0) [] := ⟨f0, [], rfl, upd_same, LV.nil⟩
      generalize upd H3 f0 (.tup []) = H4 at s4 hf4
      have k4 := k3.trans s4
      have hu4 := LkR.mn.to hu (TK.same s4)
      refine ⟨_, rfl, a, rfl, ⟨_, SqT.of (k4 _ _ ea)⟩, ?_⟩
      refine for_it (walk_tup (K := K) (a := a) (xs := us)) (fun i σ' H' => ∃ (x5 x6 x7 : Option V) (f : Addr), σ' = [some (.ref a), some (.ref S), some (.ref sa), some u, some (.ref f), x5, x6, x7, none, none, none, none, none] ∧ Same H4 H' ∧ LkR H' (.ref f) ((lk.take i).flatMap fun p => drawN k n [p]) ∧ ((lk.take i).flatMap fun p => drawN k n [p]).length = i)
        ⟨x5, x6, x7, f0, rfl, Same.refl _, hf4, rfl⟩ ?_ ?_ ?_
      · rintro i σ2 H5 _ ⟨_, _, _, _, _, s, _⟩
        exact SqT.of (s _ _ (k4 _ _ ea))
      · rintro i y σ2 H5 H6 hi2 ⟨x5, x6, x7, f, rfl, s6, hf, lf⟩ ⟨rfl, hy⟩
        obtain ⟨pg, epg, hpg⟩ := lu.at hy
        have k6 := k4.trans s6
        obtain ⟨b, rfl, eb⟩ := PgR.iff.mp (PgR.mn.to hpg (TK.same k6))
        have pok := hok.2 _ (List.mem_of_getElem? epg)
        have p200 := pok.1
        have i200 : i < lk.length := (List.getElem?_eq_some_iff.mp epg).1
        have fm : (lk.take (i + 1)).flatMap (fun p => drawN k n [p]) = (lk.take i).flatMap (fun p => drawN k n [p]) ++ drawN k n [pg] := by rw [take_one epg, List.flatMap_append]; simp
        have d1 := draw_one (n := n) hk h2 pg
        refine ⟨_, rfl, _, rfl, one, fun p1 np1 => ?_⟩
        obtain ⟨s7, l7⟩ := lk_page (v := .ref b) (pg := pg) (PgR.iff.mpr ⟨b, rfl, eb⟩) np1
        generalize upd H6 p1 (.tup [V.ref b]) = H7 at s7 l7
        refine ⟨.ref sa, .ref p1, (k, n), [pg], rfl, StpR.mn.to hst (TK.same (k6.trans s7)), os, l7, page_ok pok, fun H8 o s8 ho => ?_⟩
        have ho : LkR H8 o (drawN k n [pg]) := ho
        have s68 := s7.trans s8
        have k8 := k6.trans s68
        refine ⟨fun σ' H' => ∃ x7 : Option V, σ' = [some (.ref a), some (.ref S), some (.ref sa), some u, some (.ref f), some (.ref b), some o, x7, none, none, none, none, none] ∧ Same H8 H', ?_, ?_⟩
        · refine ⟨_, rfl, sa, _, _, _, rfl, rfl, SqT.of (k8 _ _ e0), atI_nat (j := 0) rfl, big_ok (by show 4 ≤ _; omega), fun q1 nq1 => ?_⟩
          have s9 := same_upd (o := .tup [V.str ("wide" : Str), V.str ("even" : Str), V.str ("rows" : Str), V.str ("all" : Str)]) (Same.refl H8) nq1
          have eq9 : upd H8 q1 (.tup [V.str ("wide" : Str), V.str ("even" : Str), V.str ("rows" : Str), V.str ("all" : Str)]) q1 = _ := upd_same
          generalize upd H8 q1 (.tup [V.str ("wide" : Str), V.str ("even" : Str), V.str ("rows" : Str), V.str ("all" : Str)]) = H9 at s9 eq9
          refine ⟨q1, _, rfl, .inr (SqT.of eq9), rfl, by decide, decide (k = 0 ∨ k = 1 ∨ k = 3 ∨ k = 7), congrArg V.bl (nm_in4 k hk), ?_⟩
          by_cases c : k = 0 ∨ k = 1 ∨ k = 3 ∨ k = 7
          · rw [decide_eq_true c]
            have k9 := k8.trans s9
            have eb9 := (s68.trans s9) _ _ eb
            refine ⟨_, rfl, b, rfl, ⟨_, SqT.of eb9⟩, lc_map (K := K) (R := sgR) (S := sgR) (f := rkN k n) eb9 (LV.of_signs _ _) (by omega) sgR.mn (fun j z r H10 QQ NN k10 hz er hyr hQ => ?_) fun D H10 zs nD k10 eD lz => ?_⟩
            · have hyr : z = sV r := hyr
              subst hyr
              have rl := pok.2 r (List.mem_of_getElem? er)
              refine ⟨rfl, _, rfl, _, rfl, one, fun p2 np2 => ⟨one, fun p3 np3 => ?_⟩⟩
              obtain ⟨s11, l11⟩ := lk_row (r := r) rfl np2 np3
              generalize upd (upd H10 p2 (.tup [sV r])) p3 (.tup [.ref p2]) = H11 at s11 l11
              refine ⟨.ref sa, .ref p3, (k, n), [[r]], rfl, StpR.mn.to hst (TK.same (k9.trans (k10.trans s11))), os, l11, row_ok rl, fun H12 v s12 hv => ?_⟩
              have hv : LkR H12 v [[rkN k n r]] := by
                have e : drawN k n [[r]] = [[rkN k n r]] := draw_rk c [r]
                rw [← e]; exact hv
              obtain ⟨ya, yb, rfl, e1, e2⟩ := lk_get hv
              exact ⟨ya, _, 0, _, rfl, rfl, SqT.of e1, atI_nat (j := 0) rfl, yb, _, 0, _, rfl, rfl, SqT.of e2, atI_nat (j := 0) rfl, hQ _ _ (s11.trans s12) rfl⟩
            · refine ⟨D, _, rfl, .inl ⟨SqL.of eD, fun W nW => ?_⟩⟩
              have s11 := same_upd (o := .tup zs) k10 nW
              have hW : PgR (upd H10 W (.tup zs)) (.ref W) (pg.map (rkN k n)) := TupR.new sgR.mn lz nW
              generalize upd H10 W (.tup zs) = H11 at s11 hW
              refine ⟨_, rfl, _, rfl, one, fun p3 np3 => ?_⟩
              obtain ⟨s12, l12⟩ := lk_page hW np3
              generalize upd H11 p3 (.tup [V.ref W]) = H12 at s12 l12
              rw [← draw_rk c] at l12
              have s812 := s9.trans (s11.trans s12)
              exact ⟨_, _, rfl, lk_eqv (LkR.mn.to ho (TK.same s812)) l12 (drawN_ok hk (page_ok pok)), true, rfl, _, rfl, s812⟩
          · rw [decide_eq_false c]
            exact ⟨_, rfl, s9⟩
        · rintro σ3 H9 ⟨x7, rfl, s9⟩
          have s69 := s68.trans s9
          obtain ⟨_, fus, ef, ef1, lf1⟩ := LkR.mn.to hf (TK.same s69)
          obtain rfl := V.ref.inj ef
          obtain ⟨oa, ows, rfl, eo, lo⟩ := LkR.mn.to ho (TK.same s9)
          have lfl := lf1.1
          have lol := lo.1
          refine ⟨_, rfl, _, rfl, catA_any ef1 eo (by omega) fun c H10 s10 ec => ?_⟩
          exact ⟨_, _, _, c, rfl, s6.trans (s69.trans s10), by rw [fm]; exact lk_cat lf1 lo s10 ec, by rw [fm, List.length_append, lf, d1]⟩
      · rintro σ2 H5 ⟨x5, x6, x7, f, rfl, s5, hf, lf⟩
        rw [lul, List.take_length] at hf
        have k5 := k4.trans s5
        refine ⟨_, rfl, sa, _, _, _, rfl, rfl, SqT.of (k5 _ _ e0), atI_nat (j := 0) rfl, rfl, !decide (k = 6), congrArg V.bl (congrArg (!·) (nm_eq k hk 6 (by decide))), ?_⟩
        by_cases c : k = 6
        · rw [decide_eq_true c]
          exact ⟨_, _, _, _, _, _, rfl, k5⟩
        · rw [decide_eq_false c]
          rw [← drawN_flat hk h2 c] at hf
          exact ⟨_, rfl, _, rfl, _, _, rfl, lk_eqv (LkR.mn.to hu4 (TK.same s5)) hf dok, true, rfl, _, _, _, _, _, _, rfl, k5⟩
    · rintro σ1 H1 ⟨x2, x3, x4, x5, x6, x7, rfl, k1⟩
      refine ⟨one, fun p1 np1 => ?_⟩
      have s2 := same_upd (o := .tup [V.str ("below" : Str)]) (Same.refl H1) np1
      have st2 : StpR (upd H1 p1 (.tup [V.str ("below" : Str)])) (.ref p1) (6, 1) := stp_1 (by decide) rfl
      generalize upd H1 p1 (.tup [V.str ("below" : Str)]) = H2 at s2 st2
      have k2 := k1.trans s2
      refine ⟨_, rfl, .ref p1, .ref a, (6, 1), lk, rfl, st2, stOk (by omega) (by omega) (by omega), LkR.mn.to hlk (TK.same k2), hok, fun H3 wv s3 hw => ?_⟩
      have hw : LkR H3 wv (belowN lk) := hw
      have k3 := k2.trans s3
      have bok : LkOk (belowN lk) := drawN_ok (k := 6) (n := 1) (by omega) hok
      refine ⟨_, rfl, a, _, rfl, .inr (SqT.of (k3 _ _ ea)), _, _, rfl, rfl, ((lk.length + 1 : Nat) : Int), congrArg (fun i : Int => [V.int i]) (by rw [lul]; omega), by omega, by omega, ?_⟩
      rw [toNat_k]
      refine for_it walk_rangeN (fun i σ' H' => ∃ (x9 x10 x11 : Option V), σ' = [some (.ref a), some (.ref S), x2, x3, x4, x5, x6, x7, some wv, x9, x10, x11, none] ∧ Same H3 H') ⟨none, none, none, rfl, Same.refl _⟩ (fun _ _ _ _ _ => trivial) ?_ ?_
      · rintro kk x σ2 H4 H5 hkk ⟨x9, x10, x11, rfl, s5⟩ ⟨rfl, rfl⟩
        have k5 := k3.trans s5
        have ea5 := k5 _ _ ea
        refine ⟨_, rfl, _, rfl, _, rfl, slA_any ea5 fun c1 H6 s6 ec1 => ?_⟩
        rw [cut_take] at ec1
        have k6 := k5.trans s6
        have lut : LV (PgR H6) (us.take kk) (lk.take kk) := (lu.mono fun _ _ z => PgR.mn.to z (TK.same k6)).takeN kk
        have tok := lk_ok_take hok kk
        have tl := tok.1
        have lutl := lut.1
        refine ⟨c1, rfl, ⟨_, SqT.of ec1⟩, ?_⟩
        refine lc_fil (walk_tupF (.int 0)) (p := fun i => pgC ((lk.take kk).getD i [])) (f := fun i => (us.take kk).getD i (.int 0)) (fun H' k => SqT.of (k _ _ ec1)) (by omega) (fun i H7 QQ NN hi k7 hy hn => ?_) fun D H7 nD k7 eD => ?_
        · obtain ⟨b, hb, eb⟩ := lk_at lut (i := i) (by omega)
          have pok := tok.2 _ (getD_mem (d := []) (show i < (lk.take kk).length by omega))
          have eb7 := k7 _ _ eb
          generalize (lk.take kk).getD i [] = pg at eb7 pok hy hn
          rw [getD_of hb] at hy ⊢
          have fl := flat_len (B := 200) (zss := pg) pok.2
          have fl2 : pg.length * 200 ≤ 200 * 200 := Nat.mul_le_mul_right _ pok.1
          refine ⟨rfl, ⟨_, rfl⟩, _, rfl, ("" : Str), b, pg.map mkS, rfl, rfl, .inr (SqT.of (by rw [eb7, map_sV])), ?_, ?_⟩
          · rw [sum_len, show (("" : Str)).length = 0 from by rw [empty_mk, mkS_len]; rfl]; exact big_ok (by omega)
          rw [join_mk]
          refine ⟨35, mkS pg.flatten, by rw [hash_mk]; rfl, rfl, pgC pg, congrArg V.bl (join_has pg), ?_⟩
          by_cases c : pgC pg = true
          · rw [c]
            exact ⟨_, rfl, hy c _ _ (Same.refl _) rfl⟩
          · rw [Bool.eq_false_iff.mpr c]
            exact hn (Bool.eq_false_iff.mpr c) _ (Same.refl _)
        · rw [lutl] at eD
          have k37 := k6.trans k7
          have s37 := s5.trans (s6.trans k7)
          have ea7 := k37 _ _ ea
          have fa := fil_any (lk.take kk)
          have kle : kk ≤ us.length := by rw [lul]; omega
          have dokk : LkOk (lk.drop kk) := ⟨by rw [List.length_drop]; omega, fun p hp => hok.2 p (List.mem_of_mem_drop hp)⟩
          refine ⟨fun σ' H' => ∃ rv, σ' = [some (.ref a), some (.ref S), x2, x3, x4, x5, x6, x7, some wv, some (nV kk), some (.ref D), some rv, none] ∧ Same H7 H' ∧ LkR H' rv (if (lk.take kk).any pgC = true then allN (lk.drop kk) else belowN (lk.drop kk)), ?_, ?_⟩
          · by_cases c : (lk.take kk).any pgC = true
            · rw [if_pos c]
              refine ⟨_, rfl, true, .inl ⟨_, SqL.of eD, ?_⟩, one, fun p2 np2 => ?_⟩
              · cases z : (List.range (lk.take kk).length).filter fun i => pgC ((lk.take kk).getD i []) with
                | nil => rw [fa.mp z] at c; cases c
                | cons y ys => rfl
              have s8 := same_upd (o := .tup [V.str ("all" : Str)]) (Same.refl H7) np2
              have st8 : StpR (upd H7 p2 (.tup [V.str ("all" : Str)])) (.ref p2) (7, 1) := stp_1 (by decide) rfl
              generalize upd H7 p2 (.tup [V.str ("all" : Str)]) = H8 at s8 st8
              refine ⟨_, rfl, _, rfl, _, rfl, slA_from (s8 _ _ ea7) fun c2 H9 s9 ec2 => ?_⟩
              rw [cut_dr _ (b := kk) kle rfl] at ec2
              have ld : LkR H9 (.ref c2) (lk.drop kk) := ⟨c2, _, rfl, ec2, (lu.mono fun _ _ z => PgR.mn.to z (TK.same (k37.trans (s8.trans s9)))).dropN kk⟩
              refine ⟨.ref p2, .ref c2, (7, 1), lk.drop kk, rfl, StpR.mn.to st8 (TK.same s9), stOk (by omega) (by omega) (by omega), ld, dokk, fun H10 rv s10 hrv => ?_⟩
              exact ⟨rv, rfl, s8.trans (s9.trans s10), hrv⟩
            · rw [if_neg c]
              refine ⟨_, rfl, false, .inl ⟨_, SqL.of eD, by rw [fa.mpr (Bool.eq_false_iff.mpr c)]; rfl⟩, one, fun p2 np2 => ?_⟩
              have s8 := same_upd (o := .tup [V.str ("below" : Str)]) (Same.refl H7) np2
              have st8 : StpR (upd H7 p2 (.tup [V.str ("below" : Str)])) (.ref p2) (6, 1) := stp_1 (by decide) rfl
              generalize upd H7 p2 (.tup [V.str ("below" : Str)]) = H8 at s8 st8
              refine ⟨_, rfl, _, rfl, _, rfl, slA_from (s8 _ _ ea7) fun c2 H9 s9 ec2 => ?_⟩
              rw [cut_dr _ (b := kk) kle rfl] at ec2
              have ld : LkR H9 (.ref c2) (lk.drop kk) := ⟨c2, _, rfl, ec2, (lu.mono fun _ _ z => PgR.mn.to z (TK.same (k37.trans (s8.trans s9)))).dropN kk⟩
              refine ⟨.ref p2, .ref c2, (6, 1), lk.drop kk, rfl, StpR.mn.to st8 (TK.same s9), stOk (by omega) (by omega) (by omega), ld, dokk, fun H10 rv s10 hrv => ?_⟩
              exact ⟨rv, rfl, s8.trans (s9.trans s10), hrv⟩
          · rintro σ3 H8 ⟨rv, rfl, s8, hrv⟩
            have ea8 := s8 _ _ ea7
            refine ⟨_, rfl, one, fun p2 np2 => ?_⟩
            have s9 := same_upd (o := .tup [V.str ("below" : Str)]) (Same.refl H8) np2
            have st9 : StpR (upd H8 p2 (.tup [V.str ("below" : Str)])) (.ref p2) (6, 1) := stp_1 (by decide) rfl
            generalize upd H8 p2 (.tup [V.str ("below" : Str)]) = H9 at s9 st9
            refine ⟨_, rfl, _, rfl, _, rfl, slA_any (s9 _ _ ea8) fun c3 H10 s10 ec3 => ?_⟩
            rw [cut_take] at ec3
            have lt : LkR H10 (.ref c3) (lk.take kk) := lk_take ea lu (k37.trans (s8.trans (s9.trans s10))) ec3
            refine ⟨.ref p2, .ref c3, (6, 1), lk.take kk, rfl, StpR.mn.to st9 (TK.same s10), stOk (by omega) (by omega) (by omega), lt, tok, fun H11 tv s11 htv => ?_⟩
            have htv : LkR H11 tv (belowN (lk.take kk)) := htv
            have s811 := s9.trans (s10.trans s11)
            obtain ⟨ta, tus, rfl, et1, lt1⟩ := htv
            obtain ⟨ra, rus, rfl, er1, lr1⟩ := LkR.mn.to hrv (TK.same s811)
            have bp := below_parts lk kk
            have lt1l := lt1.1
            have lr1l := lr1.1
            have bl := congrArg List.length bp
            rw [bel_len, List.length_append] at bl
            refine ⟨_, rfl, catA_any et1 er1 (by omega) fun c4 H12 s12 ec4 => ?_⟩
            have hcat := lk_cat lt1 lr1 s12 ec4
            rw [← bp] at hcat
            have s3all := s37.trans (s8.trans (s811.trans s12))
            exact ⟨_, _, rfl, lk_eqv (LkR.mn.to hw (TK.same s3all)) hcat bok, true, rfl, _, _, _, rfl, s3all⟩
      · rintro σ2 H4 ⟨x9, x10, x11, rfl, s4⟩
        exact q _ (k3.trans s4)
end
end Vf

set_option Elab.async false
set_option linter.all false
set_option maxRecDepth 100000
set_option maxHeartbeats 4000000
namespace Vf
open PySem PySem.Spec PyProof.Rows L2 TL
def stsN (a b : Nat) : List (Nat × Nat) := [(0, a), (1, b), (3, 1), (4, 1), (5, 1), (6, 1), (7, 1)]
theorem sts_ok {a b : Nat} (a1 : 1 ≤ a) (a2 : a ≤ 1000) (b1 : 1 ≤ b) (b2 : b ≤ 1000) : StsOk (stsN a b) := by
  refine ⟨by show 7 ≤ 10; omega, fun st hst => ?_⟩
  simp only [stsN, List.mem_cons, List.not_mem_nil, or_false] at hst
  rcases hst with rfl | rfl | rfl | rfl | rfl | rfl | rfl
  · exact ⟨stOk (by omega) a1 a2, by show (0 : Nat) ≠ 2; omega⟩
  · exact ⟨stOk (by omega) b1 b2, by show (1 : Nat) ≠ 2; omega⟩
  · exact ⟨stOk (by omega) (by omega) (by omega), by show (3 : Nat) ≠ 2; omega⟩
  · exact ⟨stOk (by omega) (by omega) (by omega), by show (4 : Nat) ≠ 2; omega⟩
  · exact ⟨stOk (by omega) (by omega) (by omega), by show (5 : Nat) ≠ 2; omega⟩
  · exact ⟨stOk (by omega) (by omega) (by omega), by show (6 : Nat) ≠ 2; omega⟩
  · exact ⟨stOk (by omega) (by omega) (by omega), by show (7 : Nat) ≠ 2; omega⟩
section
variable {P : Program} {w : World} {K : PySem.W.Frag} {mg : Str → Option Value} {base : Heap}
def spLaw (K : PySem.W.Frag) : Sp := fun vs H Q _ => ∃ (a : Addr) (ns : List Int), vs = [.ref a] ∧ SqL K H a (ns.map V.int) ∧ ns.length ≤ 63 ∧ ∀ H', Q (.bl true) H'
theorem ok_law (T : Txt K mg) : FnOk P w K mg base CX0 6 T.a_law T.d_law ["_law_script"] (spLaw K) := by
  have G_law_begin : FnOk P w K mg base CX0 1 T.a_law_begin T.d_law_begin ["_law_script"] (spBegin K) := ok_begin T
  have G_law_draw : FnOk P w K mg base CX0 1 T.a_law_draw T.d_law_draw ["_law_d", "_law_many"] spDraw := ok_draw T
  have G_law_pick : FnOk P w K mg base CX0 2 T.a_law_pick T.d_law_pick ["_law_d", "_law_row"] (spPick K) := ok_pick T
  have G_law_own_look : FnOk P w K mg base CX0 5 T.a_law_own_look T.d_law_own_look ["_law_d"] spLookA := ok_lookA T
  have G_law_page_parts : FnOk P w K mg base CX0 5 T.a_law_page_parts T.d_law_page_parts ["_law_page"] spPP := ok_pageP T
  have G_law_row_parts : FnOk P w K mg base CX0 5 T.a_law_row_parts T.d_law_row_parts ["_law_row", "_law_n"] spRP := ok_rowP T
  have G_law_same_turned : FnOk P w K mg base CX0 5 T.a_law_same_turned T.d_law_same_turned ["_law_d", "_law_look", "_law_steps"] spKeeps := ok_same T
  have G_law_swallows : FnOk P w K mg base CX0 5 T.a_law_swallows T.d_law_swallows ["_law_look", "_law_wide", "_law_even"] spSwal := ok_swal T
  have G_law_widths_add : FnOk P w K mg base CX0 5 T.a_law_widths_add T.d_law_widths_add ["_law_d", "_law_look"] spWidths := ok_widths T
  have G_law_keeps : FnOk P w K mg base CX0 5 T.a_law_keeps T.d_law_keeps ["_law_d", "_law_look", "_law_steps"] spKeeps := ok_keeps T
  have G_law_by_parts : FnOk P w K mg base CX0 5 T.a_law_by_parts T.d_law_by_parts ["_law_look", "_law_steps"] spBy := ok_byP T
  refine T.D_law.F.ok sc_law (fun vs H Q E h => ?_) (fun cdv A outer s H vs Q E hr h => ?_)
  · obtain ⟨a, ns, rfl, _⟩ := h
    rfl
  · obtain ⟨a, ns, rfl, hS, hl, q⟩ := h
    refine ⟨_, (pss_cons (ps_set (i := 1) sc_law.nd rfl (.inl rfl) (pe_call G_law_begin (hr.mono (by decide)) (by rfl) T.D_law_begin.G T.D_law_begin.F.kp T.D_law_begin.B .nil pass0 (pa_cons (pv 0) pa_nil)))
      (pss_cons (ps_set (i := 2) sc_law.nd rfl (.inl rfl) (pe_call G_law_own_look (hr.mono (by decide)) (by rfl) T.D_law_own_look.G T.D_law_own_look.F.kp T.D_law_own_look.B .nil pass0 (pa_cons (pv 1) pa_nil)))
      (pss_cons (ps_set (i := 3) sc_law.nd rfl (.inl rfl) (pe_tup (pa_cons pe_str (pa_cons (pe_call G_law_pick (hr.mono (by decide)) (by rfl) T.D_law_pick.G T.D_law_pick.F.kp T.D_law_pick.B .nil pass0 (pa_cons (pv 1) (pa_cons (pe_lst (pa_cons pe_int (pa_cons pe_int (pa_cons pe_int (pa_cons pe_int (pa_cons pe_int (pa_cons (pe_op op_add pe_int (pe_call G_law_draw (hr.mono (by decide)) (by rfl) T.D_law_draw.G T.D_law_draw.F.kp T.D_law_draw.B .nil pass0 (pa_cons (pv 1) (pa_cons pe_int pa_nil)))) pa_nil))))))) pa_nil))) pa_nil))))
      (pss_cons (ps_set (i := 4) sc_law.nd rfl (.inl rfl) (pe_tup (pa_cons pe_str (pa_cons (pe_call G_law_pick (hr.mono (by decide)) (by rfl) T.D_law_pick.G T.D_law_pick.F.kp T.D_law_pick.B .nil pass0 (pa_cons (pv 1) (pa_cons (pe_lst (pa_cons pe_int (pa_cons pe_int (pa_cons pe_int (pa_cons pe_int (pa_cons pe_int (pa_cons (pe_op op_add pe_int (pe_call G_law_draw (hr.mono (by decide)) (by rfl) T.D_law_draw.G T.D_law_draw.F.kp T.D_law_draw.B .nil pass0 (pa_cons (pv 1) (pa_cons pe_int pa_nil)))) pa_nil))))))) pa_nil))) pa_nil))))
      (pss_cons (ps_set (i := 5) sc_law.nd rfl (.inl rfl) (pe_lst (pa_cons (pv 3) (pa_cons (pv 4) (pa_cons (pe_tup (pa_cons pe_str pa_nil)) (pa_cons (pe_tup (pa_cons pe_str pa_nil)) (pa_cons (pe_tup (pa_cons pe_str pa_nil)) (pa_cons (pe_tup (pa_cons pe_str pa_nil)) (pa_cons (pe_tup (pa_cons pe_str pa_nil)) pa_nil)))))))))
      (pss_cons (ps_for PassesOwn.never rfl (pi_tup (pe_slice sl_tupA (pv 2) po_none (po_some pe_int))) (pg_name (i := 6) sc_law.nd rfl (.inl rfl)) (pss_cons (ps_if (pt_not (pt_val (pe_call G_law_page_parts (hr.mono (by decide)) (by rfl) T.D_law_page_parts.G T.D_law_page_parts.F.kp T.D_law_page_parts.B .nil pass0 (pa_cons (pv 6) pa_nil)))) (pss_one (ps_ret pe_bl)) pss_nil)
      (pss_one (ps_for PassesOwn.never rfl (pi_tup (pe_slice sl_tupA (pv 6) po_none (po_some pe_int))) (pg_name (i := 7) sc_law.nd rfl (.inl rfl)) (pss_one (ps_if (pt_not (pt_val (pe_call G_law_row_parts (hr.mono (by decide)) (by rfl) T.D_law_row_parts.G T.D_law_row_parts.F.kp T.D_law_row_parts.B .nil pass0 (pa_cons (pv 7) (pa_cons (pe_ix ix_tup (pv 4) pe_int (fun _ _ => rfl)) pa_nil))))) (pss_one (ps_ret pe_bl)) pss_nil))))))
      (pss_cons (ps_if (PW.pt (pw_or (pt_not (pt_val (pe_call G_law_same_turned (hr.mono (by decide)) (by rfl) T.D_law_same_turned.G T.D_law_same_turned.F.kp T.D_law_same_turned.B .nil pass0 (pa_cons (pv 1) (pa_cons (pv 2) (pa_cons (pv 5) pa_nil)))))) (pw_or1 (pt_not (pt_val (pe_call G_law_swallows (hr.mono (by decide)) (by rfl) T.D_law_swallows.G T.D_law_swallows.F.kp T.D_law_swallows.B .nil pass0 (pa_cons (pv 2) (pa_cons (pv 3) (pa_cons (pv 4) pa_nil))))))))) (pss_one (ps_ret pe_bl)) pss_nil)
      (pss_one (ps_ret (pe_and (pe_call G_law_widths_add (hr.mono (by decide)) (by rfl) T.D_law_widths_add.G T.D_law_widths_add.F.kp T.D_law_widths_add.B .nil pass0 (pa_cons (pv 1) (pa_cons (pv 2) pa_nil))) (pe_and (pe_call G_law_keeps (hr.mono (by decide)) (by rfl) T.D_law_keeps.G T.D_law_keeps.F.kp T.D_law_keeps.B .nil pass0 (pa_cons (pv 1) (pa_cons (pv 2) (pa_cons (pv 5) pa_nil)))) (pe_one (pe_call G_law_by_parts (hr.mono (by decide)) (by rfl) T.D_law_by_parts.G T.D_law_by_parts.F.kp T.D_law_by_parts.B .nil pass0 (pa_cons (pv 2) (pa_cons (pv 5) pa_nil))))))))))))))), ?_⟩
    have one : (1 : Nat) ≤ sizeLine := big_ok (by omega)
    have two : (2 : Nat) ≤ sizeLine := big_ok (by omega)
    refine ⟨_, rfl, a, ns, rfl, hS, hl, fun H1 d l s1 D1 => ?_⟩
    refine ⟨_, rfl, d, l, rfl, D1, fun H2 lv lk k2 D2 hlk hok => ?_⟩
    refine ⟨_, rfl, _, rfl, d, l, 20, rfl, D2, by decide, fun H3 r1 k3 D3 a1 a2 => ?_⟩
    obtain ⟨r, rfl, hr1⟩ := draw_nt (by decide) a1 a2
    refine ⟨_, _, rfl, rfl, big_ok (by show 6 ≤ _; omega), fun M nM => ?_⟩
    refine ⟨d, l, _, _, rfl, D3.new nM, .inl ⟨M, rfl, (D3.nd nM).1, SqL.of upd_same⟩, by show 0 < 6; omega, by show 6 ≤ 1000; omega, fun H4 v k4 D4 hv => ?_⟩
    obtain ⟨n, rfl, n1, n2⟩ : ∃ n : Nat, v = nV n ∧ 1 ≤ n ∧ n ≤ 1000 := by
      simp only [List.mem_cons, List.not_mem_nil, or_false] at hv
      rcases hv with rfl | rfl | rfl | rfl | rfl | rfl
      · exact ⟨1, rfl, by omega, by omega⟩
      · exact ⟨1, rfl, by omega, by omega⟩
      · exact ⟨2, rfl, by omega, by omega⟩
      · exact ⟨3, rfl, by omega, by omega⟩
      · exact ⟨20, rfl, by omega, by omega⟩
      · exact ⟨1 + r, by unfold nV; exact congrArg V.int (by omega), by omega, by omega⟩
    have k24 := (k3.new (o := _) nM).trans k4
    have hlk := LkR.mn.to hlk (kpTup D2 k24)
    refine ⟨two, fun pw nw => ?_⟩
    have D5 := D4.new (o := .tup [V.str ("wide" : Str), nV n]) nw
    have hw5 : StpR (upd H4 pw (.tup [V.str ("wide" : Str), nV n])) (.ref pw) (0, n) := stp_n (by decide) rfl rfl
    have hlk := LkR.mn.to hlk (TK.new (o := .tup [V.str ("wide" : Str), nV n]) (TK.refl _) nw)
    generalize upd H4 pw (.tup [V.str ("wide" : Str), nV n]) = H5 at D5 hw5 hlk
    refine ⟨_, rfl, _, rfl, d, l, 19, rfl, D5, by decide, fun H6 r1 k6 D6 a1 a2 => ?_⟩
    obtain ⟨r', rfl, hr2⟩ := draw_nt (by decide) a1 a2
    refine ⟨_, _, rfl, rfl, big_ok (by show 6 ≤ _; omega), fun M2 nM2 => ?_⟩
    refine ⟨d, l, _, _, rfl, D6.new nM2, .inl ⟨M2, rfl, (D6.nd nM2).1, SqL.of upd_same⟩, by show 0 < 6; omega, by show 6 ≤ 1000; omega, fun H7 v k7 D7 hv => ?_⟩
    obtain ⟨m, rfl, m1, m2⟩ : ∃ n : Nat, v = nV n ∧ 1 ≤ n ∧ n ≤ 1000 := by
      simp only [List.mem_cons, List.not_mem_nil, or_false] at hv
      rcases hv with rfl | rfl | rfl | rfl | rfl | rfl
      · exact ⟨2, rfl, by omega, by omega⟩
      · exact ⟨2, rfl, by omega, by omega⟩
      · exact ⟨3, rfl, by omega, by omega⟩
      · exact ⟨4, rfl, by omega, by omega⟩
      · exact ⟨20, rfl, by omega, by omega⟩
      · exact ⟨2 + r', by unfold nV; exact congrArg V.int (by omega), by omega, by omega⟩
    have k57 := (k6.new (o := _) nM2).trans k7
    have t57 := kpTup D5 k57
    have hlk := LkR.mn.to hlk t57
    have hw7 := StpR.mn.to hw5 t57
    refine ⟨two, fun pe ne => ?_⟩
    have D8 := D7.new (o := .tup [V.str ("even" : Str), nV m]) ne
    have ee8 : upd H7 pe (.tup [V.str ("even" : Str), nV m]) pe = some (.tup [V.str ("even" : Str), nV m]) := upd_same
    have he8 : StpR (upd H7 pe (.tup [V.str ("even" : Str), nV m])) (.ref pe) (1, m) := stp_n (by decide) rfl rfl
    have tn8 : TK H7 (upd H7 pe (.tup [V.str ("even" : Str), nV m])) := TK.new (TK.refl _) ne
    have hlk := LkR.mn.to hlk tn8
    have hw8 := StpR.mn.to hw7 tn8
    generalize upd H7 pe (.tup [V.str ("even" : Str), nV m]) = H8 at D8 ee8 he8 hlk hw8
    -- the steps
    refine ⟨_, rfl, _, rfl, one, fun p1 np1 => ⟨one, fun p2 np2 => ⟨one, fun p3 np3 => ⟨one, fun p4 np4 => ⟨one, fun p5 np5 => ⟨big_ok (by show 7 ≤ _; omega), fun S nS => ?_⟩⟩⟩⟩⟩⟩
    have s1 := same_upd (o := .tup [V.str ("rows" : Str)]) (Same.refl H8) np1
    have st1 : StpR (upd H8 p1 (.tup [V.str ("rows" : Str)])) (.ref p1) (3, 1) := stp_1 (by decide) rfl
    generalize upd H8 p1 (.tup [V.str ("rows" : Str)]) = X1 at s1 st1 np2 np3 np4 np5 nS
    have s2 := same_upd (o := .tup [V.str ("blocks" : Str)]) (Same.refl X1) np2
    have st2 : StpR (upd X1 p2 (.tup [V.str ("blocks" : Str)])) (.ref p2) (4, 1) := stp_1 (by decide) rfl
    generalize upd X1 p2 (.tup [V.str ("blocks" : Str)]) = X2 at s2 st2 np3 np4 np5 nS
    have s3 := same_upd (o := .tup [V.str ("pages" : Str)]) (Same.refl X2) np3
    have st3 : StpR (upd X2 p3 (.tup [V.str ("pages" : Str)])) (.ref p3) (5, 1) := stp_1 (by decide) rfl
    generalize upd X2 p3 (.tup [V.str ("pages" : Str)]) = X3 at s3 st3 np4 np5 nS
    have s4 := same_upd (o := .tup [V.str ("below" : Str)]) (Same.refl X3) np4
    have st4 : StpR (upd X3 p4 (.tup [V.str ("below" : Str)])) (.ref p4) (6, 1) := stp_1 (by decide) rfl
    generalize upd X3 p4 (.tup [V.str ("below" : Str)]) = X4 at s4 st4 np5 nS
    have s5 := same_upd (o := .tup [V.str ("all" : Str)]) (Same.refl X4) np5
    have st5 : StpR (upd X4 p5 (.tup [V.str ("all" : Str)])) (.ref p5) (7, 1) := stp_1 (by decide) rfl
    generalize upd X4 p5 (.tup [V.str ("all" : Str)]) = X5 at s5 st5 nS
    have sS := same_upd (o := .lst [.ref pw, .ref pe, .ref p1, .ref p2, .ref p3, .ref p4, .ref p5]) (Same.refl X5) nS
    have y5 := sS
    have y4 := s5.trans y5
    have y3 := s4.trans y4
    have y2 := s3.trans y3
    have y1 := s2.trans y2
    have y0 := s1.trans y1
    have D8' := D8.keep (s1.trans (s2.trans (s3.trans (s4.trans s5))))
    have ndS := D8'.nd nS
    have D9 := D8.keep y0
    have hSl : SlR (upd X5 S (.lst [.ref pw, .ref pe, .ref p1, .ref p2, .ref p3, .ref p4, .ref p5])) S [.ref pw, .ref pe, .ref p1, .ref p2, .ref p3, .ref p4, .ref p5] (stsN n m) :=
      ⟨upd_same, ((((((LV.nil.snoc (R := StpR _) (StpR.mn.to hw8 (TK.same y0))).snoc (R := StpR _) (StpR.mn.to he8 (TK.same y0))).snoc (R := StpR _) (StpR.mn.to st1 (TK.same y1))).snoc (R := StpR _) (StpR.mn.to st2 (TK.same y2))).snoc (R := StpR _) (StpR.mn.to st3 (TK.same y3))).snoc (R := StpR _) (StpR.mn.to st4 (TK.same y4))).snoc (R := StpR _) (StpR.mn.to st5 (TK.same y5))⟩
    have hlk := LkR.mn.to hlk (TK.same y0)
    have hw9 := StpR.mn.to hw8 (TK.same y0)
    have he9 := StpR.mn.to he8 (TK.same y0)
    have ee9 := y0 _ _ ee8
    generalize upd X5 S (.lst [.ref pw, .ref pe, .ref p1, .ref p2, .ref p3, .ref p4, .ref p5]) = H9 at D9 hSl hlk hw9 he9 ee9
    generalize [V.ref pw, .ref pe, .ref p1, .ref p2, .ref p3, .ref p4, .ref p5] = svs at hSl
    have oS := sts_ok n1 n2 m1 m2
    generalize stsN n m = sts at hSl oS
    obtain ⟨la, us, rfl, eus, lus⟩ := hlk
    have hlk : LkR H9 (.ref la) lk := ⟨la, us, rfl, eus, lus⟩
    -- pages and rows
    refine ⟨_, rfl, 3, rfl, slA_any eus fun c1 H10 s10 ec1 => ?_⟩
    rw [show cutV us none (some (3 : Int)) = us.take 3 from cut_take us 3] at ec1
    refine ⟨c1, rfl, ⟨_, SqT.of ec1⟩, ?_⟩
    have lt10 : LV (PgR H10) (us.take 3) (lk.take 3) := (lus.mono fun _ _ z => PgR.mn.to z (TK.same s10)).takeN 3
    have tok := lk_ok_take hok 3
    refine for_it (walk_tup (K := K) (a := c1) (xs := us.take 3)) (fun i σ' H' => ∃ x6 x7 : Option V, σ' = [some (.ref a), some (.ref d), some (.ref la), some (.ref pw), some (.ref pe), some (.ref S), x6, x7] ∧ Same H10 H') ⟨none, none, rfl, Same.refl _⟩ ?_ ?_ ?_
    · rintro i σ1 H11 _ ⟨_, _, _, k⟩
      exact SqT.of (k _ _ ec1)
    · rintro i x σ1 H11 H12 hi ⟨x6, x7, rfl, s12⟩ ⟨rfl, hx⟩
      obtain ⟨pg, epg, hpg⟩ := lt10.at hx
      have pok := tok.2 _ (List.mem_of_getElem? epg)
      have hpg := PgR.mn.to hpg (TK.same s12)
      refine ⟨_, rfl, x, pg, rfl, hpg, pok, fun H13 s13 => ⟨true, rfl, ?_⟩⟩
      obtain ⟨b, rfl, eb⟩ := PgR.iff.mp hpg
      refine ⟨_, rfl, 8, rfl, slA_any (s13 _ _ eb) fun c2 H14 s14 ec2 => ?_⟩
      rw [show cutV (pg.map sV) none (some (8 : Int)) = (pg.map sV).take 8 from cut_take _ 8, ← List.map_take] at ec2
      refine ⟨c2, rfl, ⟨_, SqT.of ec2⟩, ?_⟩
      have s1214 := s13.trans s14
      refine for_it (walk_tup (K := K) (a := c2) (xs := (pg.take 8).map sV)) (fun j σ' H' => ∃ x7 : Option V, σ' = [some (.ref a), some (.ref d), some (.ref la), some (.ref pw), some (.ref pe), some (.ref S), some (.ref b), x7] ∧ Same H14 H') ⟨x7, rfl, Same.refl _⟩ ?_ ?_ ?_
      · rintro j σ2 H15 _ ⟨_, _, k⟩
        exact SqT.of (k _ _ ec2)
      · rintro j y σ2 H15 H16 hj ⟨x7, rfl, s16⟩ ⟨rfl, hy⟩
        rw [List.getElem?_map] at hy
        obtain ⟨rr, er, rfl⟩ := Option.map_eq_some_iff.mp hy
        have rl := pok.2 rr (List.mem_of_mem_take (List.mem_of_getElem? er))
        have ee16 := (s10.trans (s12.trans (s1214.trans s16))) _ _ ee9
        refine ⟨_, rfl, _, rfl, pe, _, 1, _, rfl, rfl, SqT.of ee16, atI_nat (j := 1) rfl, rr, m, rfl, rl, m1, m2, fun H17 s17 => ⟨true, rfl, _, rfl, s16.trans s17⟩⟩
      · rintro σ2 H15 ⟨x7, rfl, s15⟩
        exact ⟨_, _, rfl, s12.trans (s1214.trans s15)⟩
    · rintro σ1 H11 ⟨x6, x7, rfl, s11⟩
      have s911 := s10.trans s11
      have D11 := D9.keep s911
      have hlk := LkR.mn.to hlk (TK.same s911)
      have hSl := hSl.same s911
      refine ⟨_, rfl, _, rfl, _, rfl, d, l, S, .ref la, lk, svs, sts, rfl, D11, hlk, hok, ndS.1, hSl, oS, fun H12 k12 D12 => ⟨true, rfl, ?_⟩⟩
      have t12 := kpTup D11 k12
      have hlk12 := LkR.mn.to hlk t12
      have hS12 := hSl.kp D11 ndS.1 k12
      refine ⟨_, rfl, _, rfl, _, rfl, .ref la, .ref pw, .ref pe, lk, n, m, rfl, hlk12, hok, StpR.mn.to hw9 (TK.trans (TK.same s911) t12), StpR.mn.to he9 (TK.trans (TK.same s911) t12), ⟨n1, n2, m1, m2⟩, fun H13 s13 => ⟨true, rfl, ?_⟩⟩
      have D13 := D12.keep s13
      have hlk13 := LkR.mn.to hlk12 (TK.same s13)
      have hS13 := hS12.same s13
      refine ⟨_, rfl, _, rfl, d, l, .ref la, lk, rfl, D13, hlk13, hok, fun H14 k14 D14 => ⟨true, rfl, ?_⟩⟩
      have hlk14 := LkR.mn.to hlk13 (kpTup D13 k14)
      have hS14 := hS13.kp D13 ndS.1 k14
      refine ⟨_, rfl, _, rfl, _, rfl, d, l, S, .ref la, lk, svs, sts, rfl, D14, hlk14, hok, ndS.1, hS14, oS, fun H15 k15 D15 => ⟨true, rfl, ?_⟩⟩
      exact ⟨_, rfl, _, rfl, S, .ref la, lk, svs, sts, rfl, LkR.mn.to hlk14 (kpTup D14 k15), hok, hS14.kp D14 ndS.1 k15, oS, fun H16 s16 => q _⟩
end
theorem all_mk {l : PySem.W.OpenLaw} {w : World} {K : PySem.W.Frag} {h : Heap} {mg : Str → Option Value} {fa : Addr} (X : K.In h) (G : h.Ns mainGlobals mg) (hfa : mg "law" = some (.ref fa))
    {f_draw : Addr} {od_draw an_draw : Option Addr} {sl_draw : Array (Option Value)} {oc_draw kV_draw dc_draw pm_draw cd_draw ct_draw : Value}
    (a_draw : PySem.W.nsIn K mainGlobals "draw" = some (some (.ref f_draw))) (l_draw : K.lookup f_draw = some ⟨oc_draw, od_draw, .func (PySem.W.fnOf "draw" "draw" (defArgs s_draw) (defBody s_draw) (defScope s_draw) .none kV_draw dc_draw pm_draw an_draw cd_draw ct_draw), sl_draw⟩) (c_draw : PySem.W.codeIn K cd_draw "draw" = true) (k_draw : PySem.W.keepIn K (.ref f_draw) = true)
    {f_whole : Addr} {od_whole an_whole : Option Addr} {sl_whole : Array (Option Value)} {oc_whole kV_whole dc_whole pm_whole cd_whole ct_whole : Value}
    (a_whole : PySem.W.nsIn K mainGlobals "_whole" = some (some (.ref f_whole))) (l_whole : K.lookup f_whole = some ⟨oc_whole, od_whole, .func (PySem.W.fnOf "_whole" "_whole" (defArgs s_whole) (defBody s_whole) (defScope s_whole) .none kV_whole dc_whole pm_whole an_whole cd_whole ct_whole), sl_whole⟩) (c_whole : PySem.W.codeIn K cd_whole "_whole" = true) (k_whole : PySem.W.keepIn K (.ref f_whole) = true)
    {f_whole_page : Addr} {od_whole_page an_whole_page : Option Addr} {sl_whole_page : Array (Option Value)} {oc_whole_page kV_whole_page dc_whole_page pm_whole_page cd_whole_page ct_whole_page : Value}
    (a_whole_page : PySem.W.nsIn K mainGlobals "_whole_page" = some (some (.ref f_whole_page))) (l_whole_page : K.lookup f_whole_page = some ⟨oc_whole_page, od_whole_page, .func (PySem.W.fnOf "_whole_page" "_whole_page" (defArgs s_whole_page) (defBody s_whole_page) (defScope s_whole_page) .none kV_whole_page dc_whole_page pm_whole_page an_whole_page cd_whole_page ct_whole_page), sl_whole_page⟩) (c_whole_page : PySem.W.codeIn K cd_whole_page "_whole_page" = true) (k_whole_page : PySem.W.keepIn K (.ref f_whole_page) = true)
    {f_has_cover : Addr} {od_has_cover an_has_cover : Option Addr} {sl_has_cover : Array (Option Value)} {oc_has_cover kV_has_cover dc_has_cover pm_has_cover cd_has_cover ct_has_cover : Value}
    (a_has_cover : PySem.W.nsIn K mainGlobals "_has_cover" = some (some (.ref f_has_cover))) (l_has_cover : K.lookup f_has_cover = some ⟨oc_has_cover, od_has_cover, .func (PySem.W.fnOf "_has_cover" "_has_cover" (defArgs s_has_cover) (defBody s_has_cover) (defScope s_has_cover) .none kV_has_cover dc_has_cover pm_has_cover an_has_cover cd_has_cover ct_has_cover), sl_has_cover⟩) (c_has_cover : PySem.W.codeIn K cd_has_cover "_has_cover" = true) (k_has_cover : PySem.W.keepIn K (.ref f_has_cover) = true)
    {f_wide_row : Addr} {od_wide_row an_wide_row : Option Addr} {sl_wide_row : Array (Option Value)} {oc_wide_row kV_wide_row dc_wide_row pm_wide_row cd_wide_row ct_wide_row : Value}
    (a_wide_row : PySem.W.nsIn K mainGlobals "_wide_row" = some (some (.ref f_wide_row))) (l_wide_row : K.lookup f_wide_row = some ⟨oc_wide_row, od_wide_row, .func (PySem.W.fnOf "_wide_row" "_wide_row" (defArgs s_wide_row) (defBody s_wide_row) (defScope s_wide_row) .none kV_wide_row dc_wide_row pm_wide_row an_wide_row cd_wide_row ct_wide_row), sl_wide_row⟩) (c_wide_row : PySem.W.codeIn K cd_wide_row "_wide_row" = true) (k_wide_row : PySem.W.keepIn K (.ref f_wide_row) = true)
    {f_even_row : Addr} {od_even_row an_even_row : Option Addr} {sl_even_row : Array (Option Value)} {oc_even_row kV_even_row dc_even_row pm_even_row cd_even_row ct_even_row : Value}
    (a_even_row : PySem.W.nsIn K mainGlobals "_even_row" = some (some (.ref f_even_row))) (l_even_row : K.lookup f_even_row = some ⟨oc_even_row, od_even_row, .func (PySem.W.fnOf "_even_row" "_even_row" (defArgs s_even_row) (defBody s_even_row) (defScope s_even_row) .none kV_even_row dc_even_row pm_even_row an_even_row cd_even_row ct_even_row), sl_even_row⟩) (c_even_row : PySem.W.codeIn K cd_even_row "_even_row" = true) (k_even_row : PySem.W.keepIn K (.ref f_even_row) = true)
    {f_blocks_page : Addr} {od_blocks_page an_blocks_page : Option Addr} {sl_blocks_page : Array (Option Value)} {oc_blocks_page kV_blocks_page dc_blocks_page pm_blocks_page cd_blocks_page ct_blocks_page : Value}
    (a_blocks_page : PySem.W.nsIn K mainGlobals "_blocks_page" = some (some (.ref f_blocks_page))) (l_blocks_page : K.lookup f_blocks_page = some ⟨oc_blocks_page, od_blocks_page, .func (PySem.W.fnOf "_blocks_page" "_blocks_page" (defArgs s_blocks_page) (defBody s_blocks_page) (defScope s_blocks_page) .none kV_blocks_page dc_blocks_page pm_blocks_page an_blocks_page cd_blocks_page ct_blocks_page), sl_blocks_page⟩) (c_blocks_page : PySem.W.codeIn K cd_blocks_page "_blocks_page" = true) (k_blocks_page : PySem.W.keepIn K (.ref f_blocks_page) = true)
    {f_block : Addr} {od_block an_block : Option Addr} {sl_block : Array (Option Value)} {oc_block kV_block dc_block pm_block cd_block ct_block : Value}
    (a_block : PySem.W.nsIn K mainGlobals "_block" = some (some (.ref f_block))) (l_block : K.lookup f_block = some ⟨oc_block, od_block, .func (PySem.W.fnOf "_block" "_block" (defArgs s_block) (defBody s_block) (defScope s_block) .none kV_block dc_block pm_block an_block cd_block ct_block), sl_block⟩) (c_block : PySem.W.codeIn K cd_block "_block" = true) (k_block : PySem.W.keepIn K (.ref f_block) = true)
    {f_below : Addr} {od_below an_below : Option Addr} {sl_below : Array (Option Value)} {oc_below kV_below dc_below pm_below cd_below ct_below : Value}
    (a_below : PySem.W.nsIn K mainGlobals "_below" = some (some (.ref f_below))) (l_below : K.lookup f_below = some ⟨oc_below, od_below, .func (PySem.W.fnOf "_below" "_below" (defArgs s_below) (defBody s_below) (defScope s_below) .none kV_below dc_below pm_below an_below cd_below ct_below), sl_below⟩) (c_below : PySem.W.codeIn K cd_below "_below" = true) (k_below : PySem.W.keepIn K (.ref f_below) = true)
    {f_law_begin : Addr} {od_law_begin an_law_begin : Option Addr} {sl_law_begin : Array (Option Value)} {oc_law_begin kV_law_begin dc_law_begin pm_law_begin cd_law_begin ct_law_begin : Value}
    (a_law_begin : PySem.W.nsIn K mainGlobals "_law_begin" = some (some (.ref f_law_begin))) (l_law_begin : K.lookup f_law_begin = some ⟨oc_law_begin, od_law_begin, .func (PySem.W.fnOf "_law_begin" "_law_begin" (defArgs s_law_begin) (defBody s_law_begin) (defScope s_law_begin) .none kV_law_begin dc_law_begin pm_law_begin an_law_begin cd_law_begin ct_law_begin), sl_law_begin⟩) (c_law_begin : PySem.W.codeIn K cd_law_begin "_law_begin" = true) (k_law_begin : PySem.W.keepIn K (.ref f_law_begin) = true)
    {f_law_draw : Addr} {od_law_draw an_law_draw : Option Addr} {sl_law_draw : Array (Option Value)} {oc_law_draw kV_law_draw dc_law_draw pm_law_draw cd_law_draw ct_law_draw : Value}
    (a_law_draw : PySem.W.nsIn K mainGlobals "_law_draw" = some (some (.ref f_law_draw))) (l_law_draw : K.lookup f_law_draw = some ⟨oc_law_draw, od_law_draw, .func (PySem.W.fnOf "_law_draw" "_law_draw" (defArgs s_law_draw) (defBody s_law_draw) (defScope s_law_draw) .none kV_law_draw dc_law_draw pm_law_draw an_law_draw cd_law_draw ct_law_draw), sl_law_draw⟩) (c_law_draw : PySem.W.codeIn K cd_law_draw "_law_draw" = true) (k_law_draw : PySem.W.keepIn K (.ref f_law_draw) = true)
    {f_law_pick : Addr} {od_law_pick an_law_pick : Option Addr} {sl_law_pick : Array (Option Value)} {oc_law_pick kV_law_pick dc_law_pick pm_law_pick cd_law_pick ct_law_pick : Value}
    (a_law_pick : PySem.W.nsIn K mainGlobals "_law_pick" = some (some (.ref f_law_pick))) (l_law_pick : K.lookup f_law_pick = some ⟨oc_law_pick, od_law_pick, .func (PySem.W.fnOf "_law_pick" "_law_pick" (defArgs s_law_pick) (defBody s_law_pick) (defScope s_law_pick) .none kV_law_pick dc_law_pick pm_law_pick an_law_pick cd_law_pick ct_law_pick), sl_law_pick⟩) (c_law_pick : PySem.W.codeIn K cd_law_pick "_law_pick" = true) (k_law_pick : PySem.W.keepIn K (.ref f_law_pick) = true)
    {f_law_rare : Addr} {od_law_rare an_law_rare : Option Addr} {sl_law_rare : Array (Option Value)} {oc_law_rare kV_law_rare dc_law_rare pm_law_rare cd_law_rare ct_law_rare : Value}
    (a_law_rare : PySem.W.nsIn K mainGlobals "_law_rare" = some (some (.ref f_law_rare))) (l_law_rare : K.lookup f_law_rare = some ⟨oc_law_rare, od_law_rare, .func (PySem.W.fnOf "_law_rare" "_law_rare" (defArgs s_law_rare) (defBody s_law_rare) (defScope s_law_rare) .none kV_law_rare dc_law_rare pm_law_rare an_law_rare cd_law_rare ct_law_rare), sl_law_rare⟩) (c_law_rare : PySem.W.codeIn K cd_law_rare "_law_rare" = true) (k_law_rare : PySem.W.keepIn K (.ref f_law_rare) = true)
    {f_law_exact : Addr} {od_law_exact an_law_exact : Option Addr} {sl_law_exact : Array (Option Value)} {oc_law_exact kV_law_exact dc_law_exact pm_law_exact cd_law_exact ct_law_exact : Value}
    (a_law_exact : PySem.W.nsIn K mainGlobals "_law_exact" = some (some (.ref f_law_exact))) (l_law_exact : K.lookup f_law_exact = some ⟨oc_law_exact, od_law_exact, .func (PySem.W.fnOf "_law_exact" "_law_exact" (defArgs s_law_exact) (defBody s_law_exact) (defScope s_law_exact) .none kV_law_exact dc_law_exact pm_law_exact an_law_exact cd_law_exact ct_law_exact), sl_law_exact⟩) (c_law_exact : PySem.W.codeIn K cd_law_exact "_law_exact" = true) (k_law_exact : PySem.W.keepIn K (.ref f_law_exact) = true)
    {f_law_own_signs : Addr} {od_law_own_signs an_law_own_signs : Option Addr} {sl_law_own_signs : Array (Option Value)} {oc_law_own_signs kV_law_own_signs dc_law_own_signs pm_law_own_signs cd_law_own_signs ct_law_own_signs : Value}
    (a_law_own_signs : PySem.W.nsIn K mainGlobals "_law_own_signs" = some (some (.ref f_law_own_signs))) (l_law_own_signs : K.lookup f_law_own_signs = some ⟨oc_law_own_signs, od_law_own_signs, .func (PySem.W.fnOf "_law_own_signs" "_law_own_signs" (defArgs s_law_own_signs) (defBody s_law_own_signs) (defScope s_law_own_signs) .none kV_law_own_signs dc_law_own_signs pm_law_own_signs an_law_own_signs cd_law_own_signs ct_law_own_signs), sl_law_own_signs⟩) (c_law_own_signs : PySem.W.codeIn K cd_law_own_signs "_law_own_signs" = true) (k_law_own_signs : PySem.W.keepIn K (.ref f_law_own_signs) = true)
    {f_law_own_row : Addr} {od_law_own_row an_law_own_row : Option Addr} {sl_law_own_row : Array (Option Value)} {oc_law_own_row kV_law_own_row dc_law_own_row pm_law_own_row cd_law_own_row ct_law_own_row : Value}
    (a_law_own_row : PySem.W.nsIn K mainGlobals "_law_own_row" = some (some (.ref f_law_own_row))) (l_law_own_row : K.lookup f_law_own_row = some ⟨oc_law_own_row, od_law_own_row, .func (PySem.W.fnOf "_law_own_row" "_law_own_row" (defArgs s_law_own_row) (defBody s_law_own_row) (defScope s_law_own_row) .none kV_law_own_row dc_law_own_row pm_law_own_row an_law_own_row cd_law_own_row ct_law_own_row), sl_law_own_row⟩) (c_law_own_row : PySem.W.codeIn K cd_law_own_row "_law_own_row" = true) (k_law_own_row : PySem.W.keepIn K (.ref f_law_own_row) = true)
    {f_law_own_look : Addr} {od_law_own_look an_law_own_look : Option Addr} {sl_law_own_look : Array (Option Value)} {oc_law_own_look kV_law_own_look dc_law_own_look pm_law_own_look cd_law_own_look ct_law_own_look : Value}
    (a_law_own_look : PySem.W.nsIn K mainGlobals "_law_own_look" = some (some (.ref f_law_own_look))) (l_law_own_look : K.lookup f_law_own_look = some ⟨oc_law_own_look, od_law_own_look, .func (PySem.W.fnOf "_law_own_look" "_law_own_look" (defArgs s_law_own_look) (defBody s_law_own_look) (defScope s_law_own_look) .none kV_law_own_look dc_law_own_look pm_law_own_look an_law_own_look cd_law_own_look ct_law_own_look), sl_law_own_look⟩) (c_law_own_look : PySem.W.codeIn K cd_law_own_look "_law_own_look" = true) (k_law_own_look : PySem.W.keepIn K (.ref f_law_own_look) = true)
    {f_law_only_covers : Addr} {od_law_only_covers an_law_only_covers : Option Addr} {sl_law_only_covers : Array (Option Value)} {oc_law_only_covers kV_law_only_covers dc_law_only_covers pm_law_only_covers cd_law_only_covers ct_law_only_covers : Value}
    (a_law_only_covers : PySem.W.nsIn K mainGlobals "_law_only_covers" = some (some (.ref f_law_only_covers))) (l_law_only_covers : K.lookup f_law_only_covers = some ⟨oc_law_only_covers, od_law_only_covers, .func (PySem.W.fnOf "_law_only_covers" "_law_only_covers" (defArgs s_law_only_covers) (defBody s_law_only_covers) (defScope s_law_only_covers) .none kV_law_only_covers dc_law_only_covers pm_law_only_covers an_law_only_covers cd_law_only_covers ct_law_only_covers), sl_law_only_covers⟩) (c_law_only_covers : PySem.W.codeIn K cd_law_only_covers "_law_only_covers" = true) (k_law_only_covers : PySem.W.keepIn K (.ref f_law_only_covers) = true)
    {f_law_turned : Addr} {od_law_turned an_law_turned : Option Addr} {sl_law_turned : Array (Option Value)} {oc_law_turned kV_law_turned dc_law_turned pm_law_turned cd_law_turned ct_law_turned : Value}
    (a_law_turned : PySem.W.nsIn K mainGlobals "_law_turned" = some (some (.ref f_law_turned))) (l_law_turned : K.lookup f_law_turned = some ⟨oc_law_turned, od_law_turned, .func (PySem.W.fnOf "_law_turned" "_law_turned" (defArgs s_law_turned) (defBody s_law_turned) (defScope s_law_turned) .none kV_law_turned dc_law_turned pm_law_turned an_law_turned cd_law_turned ct_law_turned), sl_law_turned⟩) (c_law_turned : PySem.W.codeIn K cd_law_turned "_law_turned" = true) (k_law_turned : PySem.W.keepIn K (.ref f_law_turned) = true)
    {f_law_same_turned : Addr} {od_law_same_turned an_law_same_turned : Option Addr} {sl_law_same_turned : Array (Option Value)} {oc_law_same_turned kV_law_same_turned dc_law_same_turned pm_law_same_turned cd_law_same_turned ct_law_same_turned : Value}
    (a_law_same_turned : PySem.W.nsIn K mainGlobals "_law_same_turned" = some (some (.ref f_law_same_turned))) (l_law_same_turned : K.lookup f_law_same_turned = some ⟨oc_law_same_turned, od_law_same_turned, .func (PySem.W.fnOf "_law_same_turned" "_law_same_turned" (defArgs s_law_same_turned) (defBody s_law_same_turned) (defScope s_law_same_turned) .none kV_law_same_turned dc_law_same_turned pm_law_same_turned an_law_same_turned cd_law_same_turned ct_law_same_turned), sl_law_same_turned⟩) (c_law_same_turned : PySem.W.codeIn K cd_law_same_turned "_law_same_turned" = true) (k_law_same_turned : PySem.W.keepIn K (.ref f_law_same_turned) = true)
    {f_law_swallows : Addr} {od_law_swallows an_law_swallows : Option Addr} {sl_law_swallows : Array (Option Value)} {oc_law_swallows kV_law_swallows dc_law_swallows pm_law_swallows cd_law_swallows ct_law_swallows : Value}
    (a_law_swallows : PySem.W.nsIn K mainGlobals "_law_swallows" = some (some (.ref f_law_swallows))) (l_law_swallows : K.lookup f_law_swallows = some ⟨oc_law_swallows, od_law_swallows, .func (PySem.W.fnOf "_law_swallows" "_law_swallows" (defArgs s_law_swallows) (defBody s_law_swallows) (defScope s_law_swallows) .none kV_law_swallows dc_law_swallows pm_law_swallows an_law_swallows cd_law_swallows ct_law_swallows), sl_law_swallows⟩) (c_law_swallows : PySem.W.codeIn K cd_law_swallows "_law_swallows" = true) (k_law_swallows : PySem.W.keepIn K (.ref f_law_swallows) = true)
    {f_law_widths_add : Addr} {od_law_widths_add an_law_widths_add : Option Addr} {sl_law_widths_add : Array (Option Value)} {oc_law_widths_add kV_law_widths_add dc_law_widths_add pm_law_widths_add cd_law_widths_add ct_law_widths_add : Value}
    (a_law_widths_add : PySem.W.nsIn K mainGlobals "_law_widths_add" = some (some (.ref f_law_widths_add))) (l_law_widths_add : K.lookup f_law_widths_add = some ⟨oc_law_widths_add, od_law_widths_add, .func (PySem.W.fnOf "_law_widths_add" "_law_widths_add" (defArgs s_law_widths_add) (defBody s_law_widths_add) (defScope s_law_widths_add) .none kV_law_widths_add dc_law_widths_add pm_law_widths_add an_law_widths_add cd_law_widths_add ct_law_widths_add), sl_law_widths_add⟩) (c_law_widths_add : PySem.W.codeIn K cd_law_widths_add "_law_widths_add" = true) (k_law_widths_add : PySem.W.keepIn K (.ref f_law_widths_add) = true)
    {f_law_keeps : Addr} {od_law_keeps an_law_keeps : Option Addr} {sl_law_keeps : Array (Option Value)} {oc_law_keeps kV_law_keeps dc_law_keeps pm_law_keeps cd_law_keeps ct_law_keeps : Value}
    (a_law_keeps : PySem.W.nsIn K mainGlobals "_law_keeps" = some (some (.ref f_law_keeps))) (l_law_keeps : K.lookup f_law_keeps = some ⟨oc_law_keeps, od_law_keeps, .func (PySem.W.fnOf "_law_keeps" "_law_keeps" (defArgs s_law_keeps) (defBody s_law_keeps) (defScope s_law_keeps) .none kV_law_keeps dc_law_keeps pm_law_keeps an_law_keeps cd_law_keeps ct_law_keeps), sl_law_keeps⟩) (c_law_keeps : PySem.W.codeIn K cd_law_keeps "_law_keeps" = true) (k_law_keeps : PySem.W.keepIn K (.ref f_law_keeps) = true)
    {f_law_row_parts : Addr} {od_law_row_parts an_law_row_parts : Option Addr} {sl_law_row_parts : Array (Option Value)} {oc_law_row_parts kV_law_row_parts dc_law_row_parts pm_law_row_parts cd_law_row_parts ct_law_row_parts : Value}
    (a_law_row_parts : PySem.W.nsIn K mainGlobals "_law_row_parts" = some (some (.ref f_law_row_parts))) (l_law_row_parts : K.lookup f_law_row_parts = some ⟨oc_law_row_parts, od_law_row_parts, .func (PySem.W.fnOf "_law_row_parts" "_law_row_parts" (defArgs s_law_row_parts) (defBody s_law_row_parts) (defScope s_law_row_parts) .none kV_law_row_parts dc_law_row_parts pm_law_row_parts an_law_row_parts cd_law_row_parts ct_law_row_parts), sl_law_row_parts⟩) (c_law_row_parts : PySem.W.codeIn K cd_law_row_parts "_law_row_parts" = true) (k_law_row_parts : PySem.W.keepIn K (.ref f_law_row_parts) = true)
    {f_law_page_parts : Addr} {od_law_page_parts an_law_page_parts : Option Addr} {sl_law_page_parts : Array (Option Value)} {oc_law_page_parts kV_law_page_parts dc_law_page_parts pm_law_page_parts cd_law_page_parts ct_law_page_parts : Value}
    (a_law_page_parts : PySem.W.nsIn K mainGlobals "_law_page_parts" = some (some (.ref f_law_page_parts))) (l_law_page_parts : K.lookup f_law_page_parts = some ⟨oc_law_page_parts, od_law_page_parts, .func (PySem.W.fnOf "_law_page_parts" "_law_page_parts" (defArgs s_law_page_parts) (defBody s_law_page_parts) (defScope s_law_page_parts) .none kV_law_page_parts dc_law_page_parts pm_law_page_parts an_law_page_parts cd_law_page_parts ct_law_page_parts), sl_law_page_parts⟩) (c_law_page_parts : PySem.W.codeIn K cd_law_page_parts "_law_page_parts" = true) (k_law_page_parts : PySem.W.keepIn K (.ref f_law_page_parts) = true)
    {f_law_by_parts : Addr} {od_law_by_parts an_law_by_parts : Option Addr} {sl_law_by_parts : Array (Option Value)} {oc_law_by_parts kV_law_by_parts dc_law_by_parts pm_law_by_parts cd_law_by_parts ct_law_by_parts : Value}
    (a_law_by_parts : PySem.W.nsIn K mainGlobals "_law_by_parts" = some (some (.ref f_law_by_parts))) (l_law_by_parts : K.lookup f_law_by_parts = some ⟨oc_law_by_parts, od_law_by_parts, .func (PySem.W.fnOf "_law_by_parts" "_law_by_parts" (defArgs s_law_by_parts) (defBody s_law_by_parts) (defScope s_law_by_parts) .none kV_law_by_parts dc_law_by_parts pm_law_by_parts an_law_by_parts cd_law_by_parts ct_law_by_parts), sl_law_by_parts⟩) (c_law_by_parts : PySem.W.codeIn K cd_law_by_parts "_law_by_parts" = true) (k_law_by_parts : PySem.W.keepIn K (.ref f_law_by_parts) = true)
    {f_law : Addr} {od_law an_law : Option Addr} {sl_law : Array (Option Value)} {oc_law kV_law dc_law pm_law cd_law ct_law : Value}
    (a_law : PySem.W.nsIn K mainGlobals "law" = some (some (.ref f_law))) (l_law : K.lookup f_law = some ⟨oc_law, od_law, .func (PySem.W.fnOf "law" "law" (defArgs s_law) (defBody s_law) (defScope s_law) .none kV_law dc_law pm_law an_law cd_law ct_law), sl_law⟩) (c_law : PySem.W.codeIn K cd_law "law" = true) (k_law : PySem.W.keepIn K (.ref f_law) = true)
    {t_COVER : Tok} (m_COVER : PySem.W.nsIn K mainGlobals "COVER" = some (some (.str "#" t_COVER)))
    {t_BLANK : Tok} (m_BLANK : PySem.W.nsIn K mainGlobals "BLANK" = some (some (.str " " t_BLANK)))
    (n_any : PySem.W.nsIn K mainGlobals "any" = some none)
    (n_bool : PySem.W.nsIn K mainGlobals "bool" = some none)
    (n_enumerate : PySem.W.nsIn K mainGlobals "enumerate" = some none)
    (n_int : PySem.W.nsIn K mainGlobals "int" = some none)
    (n_isinstance : PySem.W.nsIn K mainGlobals "isinstance" = some none)
    (n_len : PySem.W.nsIn K mainGlobals "len" = some none)
    (n_list : PySem.W.nsIn K mainGlobals "list" = some none)
    (n_max : PySem.W.nsIn K mainGlobals "max" = some none)
    (n_min : PySem.W.nsIn K mainGlobals "min" = some none)
    (n_range : PySem.W.nsIn K mainGlobals "range" = some none)
    (n_str : PySem.W.nsIn K mainGlobals "str" = some none)
    (n_tuple : PySem.W.nsIn K mainGlobals "tuple" = some none)
    : ∃ fd : FuncData, (∀ (s : Shared) (v : Value), BindsTo s fd ⟨[v], []⟩ [("_law_script", v)]) ∧ ∀ base : Heap, K.In base → base.Ns mainGlobals mg → FnOk l.prog w K mg base CX0 6 fa fd ["_law_script"] (spLaw K) := by
  have e := hfa.symm.trans (PySem.W.mg_of X G a_law)
  cases e
  have F_draw := fun_mk (st := s_draw) l_draw c_draw k_draw
  have b_draw := F_draw.binds (ps := ["step", "look"]) fun _ _ _ _ _ _ us hl => match us, hl with | [_, _], _ => rfl
  have F_whole := fun_mk (st := s_whole) l_whole c_whole k_whole
  have b_whole := F_whole.binds (ps := ["row"]) fun _ _ _ _ _ _ us hl => match us, hl with | [_], _ => rfl
  have F_whole_page := fun_mk (st := s_whole_page) l_whole_page c_whole_page k_whole_page
  have b_whole_page := F_whole_page.binds (ps := ["page"]) fun _ _ _ _ _ _ us hl => match us, hl with | [_], _ => rfl
  have F_has_cover := fun_mk (st := s_has_cover) l_has_cover c_has_cover k_has_cover
  have b_has_cover := F_has_cover.binds (ps := ["page"]) fun _ _ _ _ _ _ us hl => match us, hl with | [_], _ => rfl
  have F_wide_row := fun_mk (st := s_wide_row) l_wide_row c_wide_row k_wide_row
  have b_wide_row := F_wide_row.binds (ps := ["row", "distance"]) fun _ _ _ _ _ _ us hl => match us, hl with | [_, _], _ => rfl
  have F_even_row := fun_mk (st := s_even_row) l_even_row c_even_row k_even_row
  have b_even_row := F_even_row.binds (ps := ["row", "measure"]) fun _ _ _ _ _ _ us hl => match us, hl with | [_, _], _ => rfl
  have F_blocks_page := fun_mk (st := s_blocks_page) l_blocks_page c_blocks_page k_blocks_page
  have b_blocks_page := F_blocks_page.binds (ps := ["page"]) fun _ _ _ _ _ _ us hl => match us, hl with | [_], _ => rfl
  have F_block := fun_mk (st := s_block) l_block c_block k_block
  have b_block := F_block.binds (ps := ["rows"]) fun _ _ _ _ _ _ us hl => match us, hl with | [_], _ => rfl
  have F_below := fun_mk (st := s_below) l_below c_below k_below
  have b_below := F_below.binds (ps := ["look"]) fun _ _ _ _ _ _ us hl => match us, hl with | [_], _ => rfl
  have F_law_begin := fun_mk (st := s_law_begin) l_law_begin c_law_begin k_law_begin
  have b_law_begin := F_law_begin.binds (ps := ["_law_script"]) fun _ _ _ _ _ _ us hl => match us, hl with | [_], _ => rfl
  have F_law_draw := fun_mk (st := s_law_draw) l_law_draw c_law_draw k_law_draw
  have b_law_draw := F_law_draw.binds (ps := ["_law_d", "_law_many"]) fun _ _ _ _ _ _ us hl => match us, hl with | [_, _], _ => rfl
  have F_law_pick := fun_mk (st := s_law_pick) l_law_pick c_law_pick k_law_pick
  have b_law_pick := F_law_pick.binds (ps := ["_law_d", "_law_row"]) fun _ _ _ _ _ _ us hl => match us, hl with | [_, _], _ => rfl
  have F_law_rare := fun_mk (st := s_law_rare) l_law_rare c_law_rare k_law_rare
  have b_law_rare := F_law_rare.binds (ps := ["_law_d", "_law_many"]) fun _ _ _ _ _ _ us hl => match us, hl with | [_, _], _ => rfl
  have F_law_exact := fun_mk (st := s_law_exact) l_law_exact c_law_exact k_law_exact
  have b_law_exact := F_law_exact.binds (ps := ["_law_told", "_law_due"]) fun _ _ _ _ _ _ us hl => match us, hl with | [_, _], _ => rfl
  have F_law_own_signs := fun_mk (st := s_law_own_signs) l_law_own_signs c_law_own_signs k_law_own_signs
  have b_law_own_signs := F_law_own_signs.binds (ps := []) fun _ _ _ _ _ _ us hl => match us, hl with | [], _ => rfl
  have F_law_own_row := fun_mk (st := s_law_own_row) l_law_own_row c_law_own_row k_law_own_row
  have b_law_own_row := F_law_own_row.binds (ps := ["_law_d", "_law_wide"]) fun _ _ _ _ _ _ us hl => match us, hl with | [_, _], _ => rfl
  have F_law_own_look := fun_mk (st := s_law_own_look) l_law_own_look c_law_own_look k_law_own_look
  have b_law_own_look := F_law_own_look.binds (ps := ["_law_d"]) fun _ _ _ _ _ _ us hl => match us, hl with | [_], _ => rfl
  have F_law_only_covers := fun_mk (st := s_law_only_covers) l_law_only_covers c_law_only_covers k_law_only_covers
  have b_law_only_covers := F_law_only_covers.binds (ps := ["_law_look", "_law_told"]) fun _ _ _ _ _ _ us hl => match us, hl with | [_, _], _ => rfl
  have F_law_turned := fun_mk (st := s_law_turned) l_law_turned c_law_turned k_law_turned
  have b_law_turned := F_law_turned.binds (ps := ["_law_look", "_law_way", "_law_table"]) fun _ _ _ _ _ _ us hl => match us, hl with | [_, _, _], _ => rfl
  have F_law_same_turned := fun_mk (st := s_law_same_turned) l_law_same_turned c_law_same_turned k_law_same_turned
  have b_law_same_turned := F_law_same_turned.binds (ps := ["_law_d", "_law_look", "_law_steps"]) fun _ _ _ _ _ _ us hl => match us, hl with | [_, _, _], _ => rfl
  have F_law_swallows := fun_mk (st := s_law_swallows) l_law_swallows c_law_swallows k_law_swallows
  have b_law_swallows := F_law_swallows.binds (ps := ["_law_look", "_law_wide", "_law_even"]) fun _ _ _ _ _ _ us hl => match us, hl with | [_, _, _], _ => rfl
  have F_law_widths_add := fun_mk (st := s_law_widths_add) l_law_widths_add c_law_widths_add k_law_widths_add
  have b_law_widths_add := F_law_widths_add.binds (ps := ["_law_d", "_law_look"]) fun _ _ _ _ _ _ us hl => match us, hl with | [_, _], _ => rfl
  have F_law_keeps := fun_mk (st := s_law_keeps) l_law_keeps c_law_keeps k_law_keeps
  have b_law_keeps := F_law_keeps.binds (ps := ["_law_d", "_law_look", "_law_steps"]) fun _ _ _ _ _ _ us hl => match us, hl with | [_, _, _], _ => rfl
  have F_law_row_parts := fun_mk (st := s_law_row_parts) l_law_row_parts c_law_row_parts k_law_row_parts
  have b_law_row_parts := F_law_row_parts.binds (ps := ["_law_row", "_law_n"]) fun _ _ _ _ _ _ us hl => match us, hl with | [_, _], _ => rfl
  have F_law_page_parts := fun_mk (st := s_law_page_parts) l_law_page_parts c_law_page_parts k_law_page_parts
  have b_law_page_parts := F_law_page_parts.binds (ps := ["_law_page"]) fun _ _ _ _ _ _ us hl => match us, hl with | [_], _ => rfl
  have F_law_by_parts := fun_mk (st := s_law_by_parts) l_law_by_parts c_law_by_parts k_law_by_parts
  have b_law_by_parts := F_law_by_parts.binds (ps := ["_law_look", "_law_steps"]) fun _ _ _ _ _ _ us hl => match us, hl with | [_, _], _ => rfl
  have F_law := fun_mk (st := s_law) l_law c_law k_law
  have b_law := F_law.binds (ps := ["_law_script"]) fun _ _ _ _ _ _ us hl => match us, hl with | [_], _ => rfl
  exact ⟨PySem.W.fnOf "law" "law" (defArgs s_law) (defBody s_law) (defScope s_law) .none kV_law dc_law pm_law an_law cd_law ct_law, fun s v => .of_eq rfl, fun base _ _ => ok_law (T := {
    a_draw := _,
    d_draw := _,
    D_draw := ⟨F_draw, PySem.W.mg_of X G a_draw, b_draw, ⟨_, _, _, _, _, _, rfl⟩⟩,
    a_whole := _,
    d_whole := _,
    D_whole := ⟨F_whole, PySem.W.mg_of X G a_whole, b_whole, ⟨_, _, _, _, _, _, rfl⟩⟩,
    a_whole_page := _,
    d_whole_page := _,
    D_whole_page := ⟨F_whole_page, PySem.W.mg_of X G a_whole_page, b_whole_page, ⟨_, _, _, _, _, _, rfl⟩⟩,
    a_has_cover := _,
    d_has_cover := _,
    D_has_cover := ⟨F_has_cover, PySem.W.mg_of X G a_has_cover, b_has_cover, ⟨_, _, _, _, _, _, rfl⟩⟩,
    a_wide_row := _,
    d_wide_row := _,
    D_wide_row := ⟨F_wide_row, PySem.W.mg_of X G a_wide_row, b_wide_row, ⟨_, _, _, _, _, _, rfl⟩⟩,
    a_even_row := _,
    d_even_row := _,
    D_even_row := ⟨F_even_row, PySem.W.mg_of X G a_even_row, b_even_row, ⟨_, _, _, _, _, _, rfl⟩⟩,
    a_blocks_page := _,
    d_blocks_page := _,
    D_blocks_page := ⟨F_blocks_page, PySem.W.mg_of X G a_blocks_page, b_blocks_page, ⟨_, _, _, _, _, _, rfl⟩⟩,
    a_block := _,
    d_block := _,
    D_block := ⟨F_block, PySem.W.mg_of X G a_block, b_block, ⟨_, _, _, _, _, _, rfl⟩⟩,
    a_below := _,
    d_below := _,
    D_below := ⟨F_below, PySem.W.mg_of X G a_below, b_below, ⟨_, _, _, _, _, _, rfl⟩⟩,
    a_law_begin := _,
    d_law_begin := _,
    D_law_begin := ⟨F_law_begin, PySem.W.mg_of X G a_law_begin, b_law_begin, ⟨_, _, _, _, _, _, rfl⟩⟩,
    a_law_draw := _,
    d_law_draw := _,
    D_law_draw := ⟨F_law_draw, PySem.W.mg_of X G a_law_draw, b_law_draw, ⟨_, _, _, _, _, _, rfl⟩⟩,
    a_law_pick := _,
    d_law_pick := _,
    D_law_pick := ⟨F_law_pick, PySem.W.mg_of X G a_law_pick, b_law_pick, ⟨_, _, _, _, _, _, rfl⟩⟩,
    a_law_rare := _,
    d_law_rare := _,
    D_law_rare := ⟨F_law_rare, PySem.W.mg_of X G a_law_rare, b_law_rare, ⟨_, _, _, _, _, _, rfl⟩⟩,
    a_law_exact := _,
    d_law_exact := _,
    D_law_exact := ⟨F_law_exact, PySem.W.mg_of X G a_law_exact, b_law_exact, ⟨_, _, _, _, _, _, rfl⟩⟩,
    a_law_own_signs := _,
    d_law_own_signs := _,
    D_law_own_signs := ⟨F_law_own_signs, PySem.W.mg_of X G a_law_own_signs, b_law_own_signs, ⟨_, _, _, _, _, _, rfl⟩⟩,
    a_law_own_row := _,
    d_law_own_row := _,
    D_law_own_row := ⟨F_law_own_row, PySem.W.mg_of X G a_law_own_row, b_law_own_row, ⟨_, _, _, _, _, _, rfl⟩⟩,
    a_law_own_look := _,
    d_law_own_look := _,
    D_law_own_look := ⟨F_law_own_look, PySem.W.mg_of X G a_law_own_look, b_law_own_look, ⟨_, _, _, _, _, _, rfl⟩⟩,
    a_law_only_covers := _,
    d_law_only_covers := _,
    D_law_only_covers := ⟨F_law_only_covers, PySem.W.mg_of X G a_law_only_covers, b_law_only_covers, ⟨_, _, _, _, _, _, rfl⟩⟩,
    a_law_turned := _,
    d_law_turned := _,
    D_law_turned := ⟨F_law_turned, PySem.W.mg_of X G a_law_turned, b_law_turned, ⟨_, _, _, _, _, _, rfl⟩⟩,
    a_law_same_turned := _,
    d_law_same_turned := _,
    D_law_same_turned := ⟨F_law_same_turned, PySem.W.mg_of X G a_law_same_turned, b_law_same_turned, ⟨_, _, _, _, _, _, rfl⟩⟩,
    a_law_swallows := _,
    d_law_swallows := _,
    D_law_swallows := ⟨F_law_swallows, PySem.W.mg_of X G a_law_swallows, b_law_swallows, ⟨_, _, _, _, _, _, rfl⟩⟩,
    a_law_widths_add := _,
    d_law_widths_add := _,
    D_law_widths_add := ⟨F_law_widths_add, PySem.W.mg_of X G a_law_widths_add, b_law_widths_add, ⟨_, _, _, _, _, _, rfl⟩⟩,
    a_law_keeps := _,
    d_law_keeps := _,
    D_law_keeps := ⟨F_law_keeps, PySem.W.mg_of X G a_law_keeps, b_law_keeps, ⟨_, _, _, _, _, _, rfl⟩⟩,
    a_law_row_parts := _,
    d_law_row_parts := _,
    D_law_row_parts := ⟨F_law_row_parts, PySem.W.mg_of X G a_law_row_parts, b_law_row_parts, ⟨_, _, _, _, _, _, rfl⟩⟩,
    a_law_page_parts := _,
    d_law_page_parts := _,
    D_law_page_parts := ⟨F_law_page_parts, PySem.W.mg_of X G a_law_page_parts, b_law_page_parts, ⟨_, _, _, _, _, _, rfl⟩⟩,
    a_law_by_parts := _,
    d_law_by_parts := _,
    D_law_by_parts := ⟨F_law_by_parts, PySem.W.mg_of X G a_law_by_parts, b_law_by_parts, ⟨_, _, _, _, _, _, rfl⟩⟩,
    a_law := _,
    d_law := _,
    D_law := ⟨F_law, PySem.W.mg_of X G a_law, b_law, ⟨_, _, _, _, _, _, rfl⟩⟩,
    t_COVER := _,
    m_COVER := PySem.W.mg_of X G m_COVER,
    t_BLANK := _,
    m_BLANK := PySem.W.mg_of X G m_BLANK,
    n_any := PySem.W.mg_none_of X G n_any,
    n_bool := PySem.W.mg_none_of X G n_bool,
    n_enumerate := PySem.W.mg_none_of X G n_enumerate,
    n_int := PySem.W.mg_none_of X G n_int,
    n_isinstance := PySem.W.mg_none_of X G n_isinstance,
    n_len := PySem.W.mg_none_of X G n_len,
    n_list := PySem.W.mg_none_of X G n_list,
    n_max := PySem.W.mg_none_of X G n_max,
    n_min := PySem.W.mg_none_of X G n_min,
    n_range := PySem.W.mg_none_of X G n_range,
    n_str := PySem.W.mg_none_of X G n_str,
    n_tuple := PySem.W.mg_none_of X G n_tuple })⟩
end Vf
open PySem PySem.W PyProof.Rows
set_option maxHeartbeats 0 in
theorem PySem.Challenge.cw_hushedpages_k64_whole_only_cover_holds : PySem.Challenge.rw_hushedpages_k64_whole_only_cover.Holds := by
  w_on; o_law; k_head; (case hw => w_witness2)
  k_fill
  refine L2.walk_of (l := PySem.Challenge.rw_hushedpages_k64_whole_only_cover) (n := 63) (k := 6) (x := "_law_script") (CX := fun _ => L2.CX0) (sp := fun w => Vf.spLaw _) rfl (by decide) rfl ⟨rfl, by decide, by decide⟩ (fun w h Y => PySem.W.kIn_of Y) ?F (fun _ _ a ns hl _ hS => ⟨a, ns, rfl, hS, hl, fun _ => rfl⟩) (fun _ _ _ _ _ h => h)
  case F =>
    intro w mg fa h KX G hmg
    refine' Vf.all_mk KX G hmg ?a_draw ?l_draw ?c_draw ?k_draw ?a_whole ?l_whole ?c_whole ?k_whole ?a_whole_page ?l_whole_page ?c_whole_page ?k_whole_page ?a_has_cover ?l_has_cover ?c_has_cover ?k_has_cover ?a_wide_row ?l_wide_row ?c_wide_row ?k_wide_row ?a_even_row ?l_even_row ?c_even_row ?k_even_row ?a_blocks_page ?l_blocks_page ?c_blocks_page ?k_blocks_page ?a_block ?l_block ?c_block ?k_block ?a_below ?l_below ?c_below ?k_below ?a_law_begin ?l_law_begin ?c_law_begin ?k_law_begin ?a_law_draw ?l_law_draw ?c_law_draw ?k_law_draw ?a_law_pick ?l_law_pick ?c_law_pick ?k_law_pick ?a_law_rare ?l_law_rare ?c_law_rare ?k_law_rare ?a_law_exact ?l_law_exact ?c_law_exact ?k_law_exact ?a_law_own_signs ?l_law_own_signs ?c_law_own_signs ?k_law_own_signs ?a_law_own_row ?l_law_own_row ?c_law_own_row ?k_law_own_row ?a_law_own_look ?l_law_own_look ?c_law_own_look ?k_law_own_look ?a_law_only_covers ?l_law_only_covers ?c_law_only_covers ?k_law_only_covers ?a_law_turned ?l_law_turned ?c_law_turned ?k_law_turned ?a_law_same_turned ?l_law_same_turned ?c_law_same_turned ?k_law_same_turned ?a_law_swallows ?l_law_swallows ?c_law_swallows ?k_law_swallows ?a_law_widths_add ?l_law_widths_add ?c_law_widths_add ?k_law_widths_add ?a_law_keeps ?l_law_keeps ?c_law_keeps ?k_law_keeps ?a_law_row_parts ?l_law_row_parts ?c_law_row_parts ?k_law_row_parts ?a_law_page_parts ?l_law_page_parts ?c_law_page_parts ?k_law_page_parts ?a_law_by_parts ?l_law_by_parts ?c_law_by_parts ?k_law_by_parts ?a_law ?l_law ?c_law ?k_law ?m_COVER ?m_BLANK ?n_any ?n_bool ?n_enumerate ?n_int ?n_isinstance ?n_len ?n_list ?n_max ?n_min ?n_range ?n_str ?n_tuple
    (case a_draw => k_is)
    (case l_draw => k_is)
    (case c_draw => k_is)
    (case k_draw => k_is)
    (case a_whole => k_is)
    (case l_whole => k_is)
    (case c_whole => k_is)
    (case k_whole => k_is)
    (case a_whole_page => k_is)
    (case l_whole_page => k_is)
    (case c_whole_page => k_is)
    (case k_whole_page => k_is)
    (case a_has_cover => k_is)
    (case l_has_cover => k_is)
    (case c_has_cover => k_is)
    (case k_has_cover => k_is)
    (case a_wide_row => k_is)
    (case l_wide_row => k_is)
    (case c_wide_row => k_is)
    (case k_wide_row => k_is)
    (case a_even_row => k_is)
    (case l_even_row => k_is)
    (case c_even_row => k_is)
    (case k_even_row => k_is)
    (case a_blocks_page => k_is)
    (case l_blocks_page => k_is)
    (case c_blocks_page => k_is)
    (case k_blocks_page => k_is)
    (case a_block => k_is)
    (case l_block => k_is)
    (case c_block => k_is)
    (case k_block => k_is)
    (case a_below => k_is)
    (case l_below => k_is)
    (case c_below => k_is)
    (case k_below => k_is)
    (case a_law_begin => k_is)
    (case l_law_begin => k_is)
    (case c_law_begin => k_is)
    (case k_law_begin => k_is)
    (case a_law_draw => k_is)
    (case l_law_draw => k_is)
    (case c_law_draw => k_is)
    (case k_law_draw => k_is)
    (case a_law_pick => k_is)
    (case l_law_pick => k_is)
    (case c_law_pick => k_is)
    (case k_law_pick => k_is)
    (case a_law_rare => k_is)
    (case l_law_rare => k_is)
    (case c_law_rare => k_is)
    (case k_law_rare => k_is)
    (case a_law_exact => k_is)
    (case l_law_exact => k_is)
    (case c_law_exact => k_is)
    (case k_law_exact => k_is)
    (case a_law_own_signs => k_is)
    (case l_law_own_signs => k_is)
    (case c_law_own_signs => k_is)
    (case k_law_own_signs => k_is)
    (case a_law_own_row => k_is)
    (case l_law_own_row => k_is)
    (case c_law_own_row => k_is)
    (case k_law_own_row => k_is)
    (case a_law_own_look => k_is)
    (case l_law_own_look => k_is)
    (case c_law_own_look => k_is)
    (case k_law_own_look => k_is)
    (case a_law_only_covers => k_is)
    (case l_law_only_covers => k_is)
    (case c_law_only_covers => k_is)
    (case k_law_only_covers => k_is)
    (case a_law_turned => k_is)
    (case l_law_turned => k_is)
    (case c_law_turned => k_is)
    (case k_law_turned => k_is)
    (case a_law_same_turned => k_is)
    (case l_law_same_turned => k_is)
    (case c_law_same_turned => k_is)
    (case k_law_same_turned => k_is)
    (case a_law_swallows => k_is)
    (case l_law_swallows => k_is)
    (case c_law_swallows => k_is)
    (case k_law_swallows => k_is)
    (case a_law_widths_add => k_is)
    (case l_law_widths_add => k_is)
    (case c_law_widths_add => k_is)
    (case k_law_widths_add => k_is)
    (case a_law_keeps => k_is)
    (case l_law_keeps => k_is)
    (case c_law_keeps => k_is)
    (case k_law_keeps => k_is)
    (case a_law_row_parts => k_is)
    (case l_law_row_parts => k_is)
    (case c_law_row_parts => k_is)
    (case k_law_row_parts => k_is)
    (case a_law_page_parts => k_is)
    (case l_law_page_parts => k_is)
    (case c_law_page_parts => k_is)
    (case k_law_page_parts => k_is)
    (case a_law_by_parts => k_is)
    (case l_law_by_parts => k_is)
    (case c_law_by_parts => k_is)
    (case k_law_by_parts => k_is)
    (case a_law => k_is)
    (case l_law => k_is)
    (case c_law => k_is)
    (case k_law => k_is)
    (case m_COVER => k_is)
    (case m_BLANK => k_is)
    (case n_any => k_is)
    (case n_bool => k_is)
    (case n_enumerate => k_is)
    (case n_int => k_is)
    (case n_isinstance => k_is)
    (case n_len => k_is)
    (case n_list => k_is)
    (case n_max => k_is)
    (case n_min => k_is)
    (case n_range => k_is)
    (case n_str => k_is)
    (case n_tuple => k_is)
