import PyProof.Rows.All
import Wide.All
import OpenK.AllK
import Wide.FinOn
import HandS.ForMost
import HandS.IsInst
import HandS.Conv
import HandS.Evl
import PyProof.StrBlock2
import HandS.ExcInit
import HandS.ExcIs
import HandS.ExcField
import HandS.Wide
import HandS.SetBool
import HandS.Strs
import HandS.Walk
import HandS.Deep
import HandS.TupSets
import HandS.Style
import PyProof.ListStr
import HandS.TupLe
import KE.GoesEnum
import HandS.TupAny
import PySem.Challenge.RW_hushedpages_k62_curtain_steps
set_option Elab.async false
set_option linter.all false
set_option maxRecDepth 100000
set_option maxHeartbeats 4000000
namespace Vf
open PySem PySem.Spec PyProof.Rows L2
def topS (i : Nat) : Stmt := PySem.Challenge.pw_hushedpages_k62_curtain_steps.main.body.getD i (.Pass ⟨0, 0, 0, 0⟩)
abbrev s_draw : Stmt := topS 3
theorem sc_draw : FnScope ["step", "look", "name", "page", "row"] ["step", "look"] (defScope s_draw) := ⟨rfl, rfl, rfl, by decide +kernel, rfl, by decide +kernel, by decide +kernel⟩
abbrev s_whole : Stmt := topS 4
theorem sc_whole : FnScope ["row"] ["row"] (defScope s_whole) := ⟨rfl, rfl, rfl, by decide +kernel, rfl, by decide +kernel, by decide +kernel⟩
abbrev s_whole_page : Stmt := topS 5
theorem sc_whole_page : FnScope ["page", "row"] ["page"] (defScope s_whole_page) := ⟨rfl, rfl, rfl, by decide +kernel, rfl, by decide +kernel, by decide +kernel⟩
abbrev s_has_cover : Stmt := topS 6
theorem sc_has_cover : FnScope ["page", "row"] ["page"] (defScope s_has_cover) := ⟨rfl, rfl, rfl, by decide +kernel, rfl, by decide +kernel, by decide +kernel⟩
abbrev s_wide_row : Stmt := topS 7
theorem sc_wide_row : FnScope ["row", "distance", "at", "sign"] ["row", "distance"] (defScope s_wide_row) := ⟨rfl, rfl, rfl, by decide +kernel, rfl, by decide +kernel, by decide +kernel⟩
abbrev s_even_row : Stmt := topS 8
theorem sc_even_row : FnScope ["row", "measure", "cells", "run", "sign"] ["row", "measure"] (defScope s_even_row) := ⟨rfl, rfl, rfl, by decide +kernel, rfl, by decide +kernel, by decide +kernel⟩
abbrev s_blocks_page : Stmt := topS 9
theorem sc_blocks_page : FnScope ["page", "rows", "run", "row"] ["page"] (defScope s_blocks_page) := ⟨rfl, rfl, rfl, by decide +kernel, rfl, by decide +kernel, by decide +kernel⟩
abbrev s_block : Stmt := topS 10
theorem sc_block : FnScope ["rows", "row"] ["rows"] (defScope s_block) := ⟨rfl, rfl, rfl, by decide +kernel, rfl, by decide +kernel, by decide +kernel⟩
abbrev s_below : Stmt := topS 11
theorem sc_below : FnScope ["look", "pages", "begun", "page", "rows", "row"] ["look"] (defScope s_below) := ⟨rfl, rfl, rfl, by decide +kernel, rfl, by decide +kernel, by decide +kernel⟩
abbrev s_law_begin : Stmt := topS 13
theorem sc_law_begin : FnScope ["_law_script"] ["_law_script"] (defScope s_law_begin) := ⟨rfl, rfl, rfl, by decide +kernel, rfl, by decide +kernel, by decide +kernel⟩
abbrev s_law_draw : Stmt := topS 14
theorem sc_law_draw : FnScope ["_law_d", "_law_many", "_law_cell", "_law_found"] ["_law_d", "_law_many"] (defScope s_law_draw) := ⟨rfl, rfl, rfl, by decide +kernel, rfl, by decide +kernel, by decide +kernel⟩
abbrev s_law_pick : Stmt := topS 15
theorem sc_law_pick : FnScope ["_law_d", "_law_row"] ["_law_d", "_law_row"] (defScope s_law_pick) := ⟨rfl, rfl, rfl, by decide +kernel, rfl, by decide +kernel, by decide +kernel⟩
abbrev s_law_rare : Stmt := topS 16
theorem sc_law_rare : FnScope ["_law_d", "_law_many"] ["_law_d", "_law_many"] (defScope s_law_rare) := ⟨rfl, rfl, rfl, by decide +kernel, rfl, by decide +kernel, by decide +kernel⟩
abbrev s_law_shuffled : Stmt := topS 17
theorem sc_law_shuffled : FnScope ["_law_d", "_law_row", "_law_left", "_law_found"] ["_law_d", "_law_row"] (defScope s_law_shuffled) := ⟨rfl, rfl, rfl, by decide +kernel, rfl, by decide +kernel, by decide +kernel⟩
abbrev s_law_exact : Stmt := topS 18
theorem sc_law_exact : FnScope ["_law_told", "_law_due_here", "_law_k"] ["_law_told", "_law_due_here"] (defScope s_law_exact) := ⟨rfl, rfl, rfl, by decide +kernel, rfl, by decide +kernel, by decide +kernel⟩
abbrev s_law_any_signs : Stmt := topS 19
theorem sc_law_any_signs : FnScope ["_law_d", "_law_wide", "_law_signs", "_law_k"] ["_law_d", "_law_wide"] (defScope s_law_any_signs) := ⟨rfl, rfl, rfl, by decide +kernel, rfl, by decide +kernel, by decide +kernel⟩
abbrev s_law_any_row : Stmt := topS 20
theorem sc_law_any_row : FnScope ["_law_d", "_law_wide", "_law_kind", "_law_at", "_law_cells"] ["_law_d", "_law_wide"] (defScope s_law_any_row) := ⟨rfl, rfl, rfl, by decide +kernel, rfl, by decide +kernel, by decide +kernel⟩
abbrev s_law_any_look : Stmt := topS 21
theorem sc_law_any_look : FnScope ["_law_d", "_law_many", "_law_high", "_law_wide", "_law_kind", "_law_p", "_law_r"] ["_law_d"] (defScope s_law_any_look) := ⟨rfl, rfl, rfl, by decide +kernel, rfl, by decide +kernel, by decide +kernel⟩
abbrev s_law_step_of : Stmt := topS 22
theorem sc_law_step_of : FnScope ["_law_d", "_law_kind", "_law_low"] ["_law_d", "_law_kind"] (defScope s_law_step_of) := ⟨rfl, rfl, rfl, by decide +kernel, rfl, by decide +kernel, by decide +kernel⟩
abbrev s_law_wide_due : Stmt := topS 23
theorem sc_law_wide_due : FnScope ["_law_row", "_law_n", "_law_places", "_law_cells", "_law_x", "_law_near", "_law_y"] ["_law_row", "_law_n"] (defScope s_law_wide_due) := ⟨rfl, rfl, rfl, by decide +kernel, rfl, by decide +kernel, by decide +kernel⟩
abbrev s_law_even_due : Stmt := topS 24
theorem sc_law_even_due : FnScope ["_law_row", "_law_n", "_law_grown", "_law_x", "_law_first", "_law_behind", "_law_short", "_law_cells"] ["_law_row", "_law_n"] (defScope s_law_even_due) := ⟨rfl, rfl, rfl, by decide +kernel, rfl, by decide +kernel, by decide +kernel⟩
abbrev s_law_row_due : Stmt := topS 25
theorem sc_law_row_due : FnScope ["_law_step", "_law_row"] ["_law_step", "_law_row"] (defScope s_law_row_due) := ⟨rfl, rfl, rfl, by decide +kernel, rfl, by decide +kernel, by decide +kernel⟩
abbrev s_law_blocks_due : Stmt := topS 26
theorem sc_law_blocks_due : FnScope ["_law_page", "_law_marks", "_law_run", "_law_row", "_law_hit", "_law_rows", "_law_k", "_law_blank"] ["_law_page"] (defScope s_law_blocks_due) := ⟨rfl, rfl, rfl, by decide +kernel, rfl, by decide +kernel, by decide +kernel⟩
abbrev s_law_below_due : Stmt := topS 27
theorem sc_law_below_due : FnScope ["_law_look", "_law_spots", "_law_p", "_law_pages", "_law_rows", "_law_r"] ["_law_look"] (defScope s_law_below_due) := ⟨rfl, rfl, rfl, by decide +kernel, rfl, by decide +kernel, by decide +kernel⟩
abbrev s_law_due : Stmt := topS 28
theorem sc_law_due : FnScope ["_law_step", "_law_look", "_law_pages", "_law_page", "_law_hit", "_law_p", "_law_row"] ["_law_step", "_law_look"] (defScope s_law_due) := ⟨rfl, rfl, rfl, by decide +kernel, rfl, by decide +kernel, by decide +kernel⟩
abbrev s_law : Stmt := topS 29
theorem sc_law : FnScope ["_law_script", "_law_d", "_law_looks", "_law_asked", "_law_kind", "_law_look", "_law_step"] ["_law_script"] (defScope s_law) := ⟨rfl, rfl, rfl, by decide +kernel, rfl, by decide +kernel, by decide +kernel⟩
structure DefAt (K : PySem.W.Frag) (mg : Str → Option Value) (x : Str) (st : Stmt) (ps : List Str) (f : Addr) (fd : FuncData) : Prop where
  F : Fun K x x st f fd
  G : mg x = some (.ref f)
  B : Binds K fd ps []
  E : ∃ kV doc pm an cdv ct, fd = PySem.W.fnOf x x (defArgs st) (defBody st) (defScope st) .none kV doc pm an cdv ct
structure Txt (K : PySem.W.Frag) (mg : Str → Option Value) where
  a_draw : Addr
  d_draw : FuncData
  D_draw : DefAt K mg "draw" s_draw ["step", "look"] a_draw d_draw
  a_whole : Addr
  d_whole : FuncData
  D_whole : DefAt K mg "_whole" s_whole ["row"] a_whole d_whole
  a_whole_page : Addr
  d_whole_page : FuncData
  D_whole_page : DefAt K mg "_whole_page" s_whole_page ["page"] a_whole_page d_whole_page
  a_has_cover : Addr
  d_has_cover : FuncData
  D_has_cover : DefAt K mg "_has_cover" s_has_cover ["page"] a_has_cover d_has_cover
  a_wide_row : Addr
  d_wide_row : FuncData
  D_wide_row : DefAt K mg "_wide_row" s_wide_row ["row", "distance"] a_wide_row d_wide_row
  a_even_row : Addr
  d_even_row : FuncData
  D_even_row : DefAt K mg "_even_row" s_even_row ["row", "measure"] a_even_row d_even_row
  a_blocks_page : Addr
  d_blocks_page : FuncData
  D_blocks_page : DefAt K mg "_blocks_page" s_blocks_page ["page"] a_blocks_page d_blocks_page
  a_block : Addr
  d_block : FuncData
  D_block : DefAt K mg "_block" s_block ["rows"] a_block d_block
  a_below : Addr
  d_below : FuncData
  D_below : DefAt K mg "_below" s_below ["look"] a_below d_below
  a_law_begin : Addr
  d_law_begin : FuncData
  D_law_begin : DefAt K mg "_law_begin" s_law_begin ["_law_script"] a_law_begin d_law_begin
  a_law_draw : Addr
  d_law_draw : FuncData
  D_law_draw : DefAt K mg "_law_draw" s_law_draw ["_law_d", "_law_many"] a_law_draw d_law_draw
  a_law_pick : Addr
  d_law_pick : FuncData
  D_law_pick : DefAt K mg "_law_pick" s_law_pick ["_law_d", "_law_row"] a_law_pick d_law_pick
  a_law_rare : Addr
  d_law_rare : FuncData
  D_law_rare : DefAt K mg "_law_rare" s_law_rare ["_law_d", "_law_many"] a_law_rare d_law_rare
  a_law_shuffled : Addr
  d_law_shuffled : FuncData
  D_law_shuffled : DefAt K mg "_law_shuffled" s_law_shuffled ["_law_d", "_law_row"] a_law_shuffled d_law_shuffled
  a_law_exact : Addr
  d_law_exact : FuncData
  D_law_exact : DefAt K mg "_law_exact" s_law_exact ["_law_told", "_law_due_here"] a_law_exact d_law_exact
  a_law_any_signs : Addr
  d_law_any_signs : FuncData
  D_law_any_signs : DefAt K mg "_law_any_signs" s_law_any_signs ["_law_d", "_law_wide"] a_law_any_signs d_law_any_signs
  a_law_any_row : Addr
  d_law_any_row : FuncData
  D_law_any_row : DefAt K mg "_law_any_row" s_law_any_row ["_law_d", "_law_wide"] a_law_any_row d_law_any_row
  a_law_any_look : Addr
  d_law_any_look : FuncData
  D_law_any_look : DefAt K mg "_law_any_look" s_law_any_look ["_law_d"] a_law_any_look d_law_any_look
  a_law_step_of : Addr
  d_law_step_of : FuncData
  D_law_step_of : DefAt K mg "_law_step_of" s_law_step_of ["_law_d", "_law_kind"] a_law_step_of d_law_step_of
  a_law_wide_due : Addr
  d_law_wide_due : FuncData
  D_law_wide_due : DefAt K mg "_law_wide_due" s_law_wide_due ["_law_row", "_law_n"] a_law_wide_due d_law_wide_due
  a_law_even_due : Addr
  d_law_even_due : FuncData
  D_law_even_due : DefAt K mg "_law_even_due" s_law_even_due ["_law_row", "_law_n"] a_law_even_due d_law_even_due
  a_law_row_due : Addr
  d_law_row_due : FuncData
  D_law_row_due : DefAt K mg "_law_row_due" s_law_row_due ["_law_step", "_law_row"] a_law_row_due d_law_row_due
  a_law_blocks_due : Addr
  d_law_blocks_due : FuncData
  D_law_blocks_due : DefAt K mg "_law_blocks_due" s_law_blocks_due ["_law_page"] a_law_blocks_due d_law_blocks_due
  a_law_below_due : Addr
  d_law_below_due : FuncData
  D_law_below_due : DefAt K mg "_law_below_due" s_law_below_due ["_law_look"] a_law_below_due d_law_below_due
  a_law_due : Addr
  d_law_due : FuncData
  D_law_due : DefAt K mg "_law_due" s_law_due ["_law_step", "_law_look"] a_law_due d_law_due
  a_law : Addr
  d_law : FuncData
  D_law : DefAt K mg "law" s_law ["_law_script"] a_law d_law
  t_COVER : Tok
  m_COVER : mg "COVER" = some (.str "#" t_COVER)
  t_BLANK : Tok
  m_BLANK : mg "BLANK" = some (.str " " t_BLANK)
  n_abs : mg "abs" = none
  n_any : mg "any" = none
  n_bool : mg "bool" = none
  n_enumerate : mg "enumerate" = none
  n_int : mg "int" = none
  n_isinstance : mg "isinstance" = none
  n_len : mg "len" = none
  n_list : mg "list" = none
  n_max : mg "max" = none
  n_min : mg "min" = none
  n_range : mg "range" = none
  n_str : mg "str" = none
  n_tuple : mg "tuple" = none
/-! ### the dice -/
/-- at d the dice, at l the script's copy -/
structure DI (d l : Addr) (H : Hp) : Prop where
  ne : l ≠ d
  sc : ∃ ns : List Int, H l = some (.lst (ns.map V.int))
  st : ∃ i b s c : Int, 0 ≤ i ∧ H d = some (.lst [.ref l, .int i, .int b, .int s, .int c])
/-- all but the dice stands -/
def Kp (d : Addr) (H H' : Hp) : Prop := ∀ b o, b ≠ d → H b = some o → H' b = some o
theorem Kp.refl (d : Addr) (H : Hp) : Kp d H H := fun _ _ _ h => h
theorem Kp.trans {d : Addr} {H H1 H2 : Hp} (a : Kp d H H1) (b : Kp d H1 H2) : Kp d H H2 := fun x o n h => b x o n (a x o n h)
theorem Kp.upd {d : Addr} {H H' : Hp} {o : HO} (a : Kp d H H') : Kp d H (upd H' d o) := fun x u n h => by
  rw [upd_ne n]; exact a x u n h
theorem Kp.new {d p : Addr} {H H' : Hp} {o : HO} (a : Kp d H H') (hp : H' p = none) : Kp d H (L2.upd H' p o) := fun x u n h => by
  have h2 := a x u n h
  rw [upd_ne (ne_of_none h2 hp)]; exact h2
theorem Kp.mut {d p : Addr} {H H' : Hp} {o : HO} (a : Kp d H H') (hp : H p = none) : Kp d H (L2.upd H' p o) := fun x u n h => by
  rw [upd_ne (ne_of_none h hp)]; exact a x u n h
theorem Kp.sq {K : PySem.W.Frag} {d a : Addr} {H H' : Hp} {xs : List V} (k : Kp d H H') (n : a ≠ d) (h : SqL K H a xs) : SqL K H' a xs := by
  rcases h with (h | ⟨o, h⟩) | h
  · exact .inl (.inl (k _ _ n h))
  · exact .inl (.inr ⟨o, k _ _ n h⟩)
  · exact .inr h
theorem DI.keep {d l : Addr} {H H' : Hp} (h : DI d l H) (e : ∀ b o, H b = some o → H' b = some o) : DI d l H' := by
  obtain ⟨n, ⟨ns, h1⟩, i, b, s, c, h0, h2⟩ := h
  exact ⟨n, ⟨ns, e _ _ h1⟩, i, b, s, c, h0, e _ _ h2⟩
theorem DI.at {d l p : Addr} {H : Hp} {o : HO} (h : DI d l H) (n1 : p ≠ d) (n2 : p ≠ l) : DI d l (upd H p o) := by
  obtain ⟨n, ⟨ns, h1⟩, i, b, s, c, h0, h2⟩ := h
  exact ⟨n, ⟨ns, by rw [upd_ne n2.symm]; exact h1⟩, i, b, s, c, h0, by rw [upd_ne n1.symm]; exact h2⟩
theorem DI.new {d l p : Addr} {H : Hp} {o : HO} (h : DI d l H) (hp : H p = none) : DI d l (upd H p o) :=
  h.keep fun b u e => by rw [upd_ne (ne_of_none e hp)]; exact e
theorem DI.nd {d l p : Addr} {H : Hp} (h : DI d l H) (hp : H p = none) : p ≠ d ∧ p ≠ l := by
  obtain ⟨n, ⟨ns, h1⟩, i, b, s, c, h0, h2⟩ := h
  exact ⟨fun e => (by rw [e, h2] at hp; cases hp), fun e => (by rw [e, h1] at hp; cases hp)⟩
theorem DI.set {d l : Addr} {H : Hp} {i b s c : Int} (h : DI d l H) (h0 : 0 ≤ i) : DI d l (upd H d (.lst [.ref l, .int i, .int b, .int s, .int c])) := by
  obtain ⟨n, ⟨ns, h1⟩, _⟩ := h
  exact ⟨n, ⟨ns, by rw [upd_ne n]; exact h1⟩, i, b, s, c, h0, upd_same⟩
section
variable {P : Program} {w : World} {K : PySem.W.Frag} {mg : Str → Option Value} {base : Heap}
/-! ### begin -/
def spBegin (K : PySem.W.Frag) : Sp := fun vs H Q _ => ∃ (a : Addr) (ns : List Int), vs = [.ref a] ∧ SqL K H a (ns.map V.int) ∧ ns.length ≤ 63 ∧
  ∀ H' d l, Same H H' → DI d l H' → Q (.ref d) H'
theorem ok_begin (T : Txt K mg) : FnOk P w K mg base CX0 1 T.a_law_begin T.d_law_begin ["_law_script"] (spBegin K) := by
  refine T.D_law_begin.F.ok sc_law_begin (fun vs H Q E h => ?_) (fun cdv A outer s H vs Q E hr h => ?_)
  · obtain ⟨a, ns, rfl, _⟩ := h
    rfl
  · obtain ⟨a, ns, rfl, hS, hl, q⟩ := h
    refine ⟨_, (pss_one (ps_ret (pe_lst (pa_cons (pe_callTy call_list_of (by rfl) T.n_list (by decide +kernel) (pa_cons (pv 0) pa_nil)) (pa_cons pe_int (pa_cons pe_int (pa_cons pe_int (pa_cons pe_int pa_nil)))))))), ?_⟩
    refine ⟨_, rfl, a, _, rfl, .inl hS, fun l nl => ?_⟩
    refine ⟨by show 5 ≤ sizeLine; decide, fun d nd => ?_⟩
    refine q _ d l (fun b o e => ?_) ?_
    · have n1 : b ≠ l := ne_of_none e nl
      have e1 : upd H l (.lst (ns.map V.int)) b = some o := by rw [upd_ne n1]; exact e
      rw [upd_ne (ne_of_none e1 nd)]
      exact e1
    · have e1 : upd H l (.lst (ns.map V.int)) l = some (.lst (ns.map V.int)) := upd_same
      have n1 : l ≠ d := ne_of_none e1 nd
      exact ⟨n1, ⟨ns, by rw [upd_ne n1]; exact e1⟩, 0, 0, 7, 0, by decide, upd_same⟩
/-! ### draw -/
def spDraw : Sp := fun vs H Q _ => ∃ (d l : Addr) (m : Int), vs = [.ref d, .int m] ∧ DI d l H ∧ m ≤ 1000000 ∧
  ∀ H' r, Kp d H H' → DI d l H' → (m < 2 → r = 0) → (2 ≤ m → 0 ≤ r ∧ r < m) → Q (.int r) H'
theorem ok_draw (T : Txt K mg) : FnOk P w K mg base CX0 1 T.a_law_draw T.d_law_draw ["_law_d", "_law_many"] spDraw := by
  refine T.D_law_draw.F.ok sc_law_draw (fun vs H Q E h => ?_) (fun cdv A outer s H vs Q E hr h => ?_)
  · obtain ⟨d, l, m, rfl, _⟩ := h
    rfl
  · obtain ⟨d, l, m, rfl, hD, hm, q⟩ := h
    refine ⟨_, (pss_cons (ps_if (pt_cmpR op_lt (pv 1) pe_int (nomark _)) (pss_one (ps_ret pe_int)) pss_nil)
      (pss_cons (ps_set (i := 2) sc_law_draw.nd rfl (.inl rfl) (pe_op op_add (pe_op op_mul (pe_ix ix_list (pv 0) pe_int (fun _ _ => rfl)) pe_int) pe_int))
      (Evl.pss_cut (ps_if (PW.pt (pw_and (pt_cmpR op_eq (pe_ix ix_list (pv 0) pe_int (fun _ _ => rfl)) pe_int (nomark _)) (pw_and1 (pt_cmpR op_lt (pe_ix ix_list (pv 0) pe_int (fun _ _ => rfl)) (pe_callB call_len_seq (by rfl) T.n_len PySem.boot_len (pa_cons (pe_ix ix_list (pv 0) pe_int (fun _ _ => rfl)) pa_nil)) (nomark _))))) (pss_cons (ps_set (i := 2) sc_law_draw.nd rfl (.inl rfl) (pe_ix ix_list (pe_ix ix_list (pv 0) pe_int (fun _ _ => rfl)) (pe_ix ix_list (pv 0) pe_int (fun _ _ => rfl)) (fun _ _ => rfl)))
      (pss_cons (ps_asg (pe_op op_add (pe_ix ix_list (pv 0) pe_int (fun _ _ => rfl)) pe_int) (pg_sub (pv 0) pe_int set_list))
      (Evl.pss_cut (ps_if (pt_cmpR op_lt (pv 2) pe_int (nomark _)) (pss_one (ps_set (i := 2) sc_law_draw.nd rfl (.inl rfl) (pe_op op_sub pe_int (pe_op op_mul pe_int (pv 2))))) pss_nil)
      (pss_one (ps_if (pt_cmpR op_ge (pv 2) pe_int (nomark _)) (pss_cons (ps_set (i := 2) sc_law_draw.nd rfl (.inl rfl) (pe_op op_and (pv 2) (pe_op op_sub (pe_op op_shl pe_int pe_int) pe_int)))
      (pss_one (ps_asg (pv 2) (pg_sub (pv 0) pe_int set_list)))) pss_nil))))) pss_nil)
      (pss_cons (ps_if (pt_cmpR op_gt (pe_ix ix_list (pv 0) pe_int (fun _ _ => rfl)) pe_int (nomark _)) (pss_cons (ps_set (i := 3) sc_law_draw.nd rfl (.inl rfl) (pe_op op_modN (pe_callTy call_int1 (by rfl) T.n_int (by decide +kernel) (pa_cons (pe_ix ix_list (pv 0) pe_int (fun _ _ => rfl)) pa_nil)) (pv 1)))
      (pss_cons (ps_asg (pe_op op_fdivN (pe_ix ix_list (pv 0) pe_int (fun _ _ => rfl)) (pv 1)) (pg_sub (pv 0) pe_int set_list))
      (pss_one (ps_ret (pv 3))))) pss_nil)
      (pss_cons (ps_asg (pe_op op_add (pe_ix ix_list (pv 0) pe_int (fun _ _ => rfl)) pe_int) (pg_sub (pv 0) pe_int set_list))
      (pss_cons (ps_asg (pe_op op_modN (pe_callTy call_int1 (by rfl) T.n_int (by decide +kernel) (pa_cons (pe_op op_add (pe_op op_add (pe_op op_mul (pe_ix ix_list (pv 0) pe_int (fun _ _ => rfl)) pe_int) (pe_op op_mul (pv 2) pe_int)) (pe_op op_mul (pe_ix ix_list (pv 0) pe_int (fun _ _ => rfl)) pe_int)) pa_nil)) pe_int) (pg_sub (pv 0) pe_int set_list))
      (pss_one (ps_ret (pe_op op_modN (pe_callTy call_int1 (by rfl) T.n_int (by decide +kernel) (pa_cons (pe_op op_modN (pe_callTy call_int1 (by rfl) T.n_int (by decide +kernel) (pa_cons (pe_op op_add (pe_op op_add (pe_op op_mul (pe_ix ix_list (pv 0) pe_int (fun _ _ => rfl)) pe_int) (pe_op op_mul (pe_ix ix_list (pv 0) pe_int (fun _ _ => rfl)) pe_int)) pe_int) pa_nil)) pe_int) pa_nil)) (pv 1)))))))))), ?_⟩
    refine ⟨_, rfl, _, _, rfl, rfl, _, rfl, ite2 (fun e => ?_) (fun e => ?_)⟩
    · have e := of_decide_eq_true e
      exact q H 0 (Kp.refl d H) hD (fun _ => rfl) (fun z => by omega)
    have hm2 : 2 ≤ m := by
      have e2 : ¬ m < 2 := fun z => e (decide_eq_true z)
      omega
    have hmN : m ≠ 0 := by omega
    have hmA : m.natAbs < 1073741824 := by omega
    have fm : ∀ z : Int, 0 ≤ z.fmod m ∧ z.fmod m < m := fun z => ⟨Int.fmod_nonneg_of_pos z (by omega), Int.fmod_lt_of_pos z (by omega)⟩
    obtain ⟨n, ⟨ns, h1⟩, i, b, s5, c, h0, h2⟩ := id hD
    -- cell = d[4] * 977 + 3
    refine ⟨_, rfl, _, _, _, _, rfl, rfl, SqL.of h2, rfl, _, _, rfl, rfl, .inr ⟨by decide, by decide⟩, _, _, rfl, rfl, ?_⟩
    refine ⟨fun σ' H' => ∃ (cell : Int) (x3 : Option V), σ' = [some (.ref d), some (.int m), some (.int cell), x3] ∧ Kp d H H' ∧ DI d l H', ?_, ?_⟩
    · -- the cell
      refine ⟨_, rfl, _, _, _, _, rfl, rfl, SqL.of h2, rfl, rfl, _, rfl, ite2 (fun e1 => ?_) (fun e1 => ?_)⟩
      · refine ⟨_, rfl, _, _, _, _, rfl, rfl, SqL.of h2, rfl, _, rfl, _, _, _, _, rfl, rfl, SqL.of h2, rfl, _, _, rfl, .inl (SqL.of h1), _, _, rfl, rfl, _, rfl, ite2 (fun e2 => ?_) (fun e2 => ?_)⟩
        · have e2 := of_decide_eq_true e2
          rw [List.length_map] at e2
          obtain ⟨j, rfl⟩ : ∃ j : Nat, i = (j : Int) := ⟨i.toNat, by omega⟩
          have hj : j < ns.length := by omega
          have gj : (ns.map V.int)[j]? = some (.int ns[j]) := by
            rw [List.getElem?_map, List.getElem?_eq_getElem hj]; rfl
          refine ⟨_, rfl, _, _, _, _, rfl, rfl, SqL.of h2, rfl, _, rfl, _, _, _, _, rfl, rfl, SqL.of h2, rfl, _, _, _, _, rfl, rfl, SqL.of h1, atI_nat gj, ?_⟩
          -- d[1] = d[1] + 1
          refine ⟨_, rfl, _, _, _, _, rfl, rfl, SqL.of h2, rfl, _, _, rfl, rfl, _, rfl, _, _, _, _, rfl, rfl, h2, rfl, ?_⟩
          have D1 := hD.set (i := (j : Int) + 1) (b := b) (s := s5) (c := c) (by omega)
          have K1 : Kp d H (upd H d (.lst [.ref l, .int ((j : Int) + 1), .int b, .int s5, .int c])) := (Kp.refl d H).upd
          refine ⟨fun σ' H' => ∃ (cell : Int) (x3 : Option V), σ' = [some (.ref d), some (.int m), some (.int cell), x3] ∧ H' = upd H d (.lst [.ref l, .int ((j : Int) + 1), .int b, .int s5, .int c]), ?_, ?_⟩
          · refine ⟨_, rfl, _, _, rfl, rfl, _, rfl, ite2 (fun _ => ?_) (fun _ => ?_)⟩
            · exact ⟨_, rfl, _, _, rfl, rfl, .inl ⟨by decide, by decide⟩, _, _, rfl, rfl, _, _, rfl, rfl⟩
            · exact ⟨_, _, rfl, rfl⟩
          · rintro σ' H' ⟨cell, x3, rfl, rfl⟩
            refine ⟨_, rfl, _, _, rfl, rfl, _, rfl, ite2 (fun _ => ?_) (fun _ => ?_)⟩
            · refine ⟨_, rfl, _, _, rfl, rfl, ⟨by decide, by decide, by decide⟩, _, _, rfl, rfl, _, _, rfl, rfl, ?_⟩
              refine ⟨_, rfl, _, rfl, _, _, _, _, rfl, rfl, upd_same, rfl, ?_⟩
              exact ⟨_, _, rfl, K1.upd, D1.set (by omega)⟩
            · exact ⟨_, _, rfl, K1, D1⟩
        · exact ⟨_, _, rfl, Kp.refl d H, hD⟩
      · exact ⟨_, _, rfl, Kp.refl d H, hD⟩
    · rintro σ' H1 ⟨cell, x3, rfl, K1, D1⟩
      obtain ⟨n, ⟨ns, h1⟩, i, b, s5, c, h0, h2⟩ := id D1
      refine ⟨_, rfl, _, _, _, _, rfl, rfl, SqL.of h2, rfl, _, _, rfl, rfl, _, rfl, ite2 (fun e1 => ?_) (fun e1 => ?_)⟩
      · refine ⟨_, rfl, _, _, _, _, rfl, rfl, SqL.of h2, rfl, .inl ⟨_, rfl, _, rfl, _, _, rfl, rfl, hmN, ?_⟩⟩
        refine ⟨_, rfl, _, _, _, _, rfl, rfl, SqL.of h2, rfl, _, rfl, _, _, rfl, rfl, ⟨hmN, hmA⟩, _, rfl, _, _, _, _, rfl, rfl, h2, rfl, ?_⟩
        exact ⟨_, rfl, q _ _ K1.upd (D1.set h0) (fun z => by omega) (fun _ => fm _)⟩
      · refine ⟨_, rfl, _, _, _, _, rfl, rfl, SqL.of h2, rfl, _, _, rfl, rfl, _, rfl, _, _, _, _, rfl, rfl, h2, rfl, ?_⟩
        refine ⟨_, rfl, _, _, _, _, rfl, rfl, SqL.of upd_same, rfl, _, _, rfl, rfl, .inr ⟨by decide, by decide⟩, _, rfl, _, _, rfl, rfl, .inr ⟨by decide, by decide⟩, _, _, rfl, rfl, _, rfl, _, _, _, _, rfl, rfl, SqL.of upd_same, rfl, _, _, rfl, rfl, .inr ⟨by decide, by decide⟩, _, _, rfl, rfl, .inl ⟨_, rfl, _, _, rfl, rfl, (by show (2147483647 : Int) ≠ 0; decide), _, rfl, _, _, _, _, rfl, rfl, upd_same, rfl, ?_⟩⟩
        refine ⟨_, rfl, _, _, _, _, rfl, rfl, SqL.of upd_same, rfl, _, _, rfl, rfl, .inr ⟨by decide, by decide⟩, _, rfl, _, _, _, _, rfl, rfl, SqL.of upd_same, rfl, _, _, rfl, rfl, .inr ⟨by decide, by decide⟩, _, _, rfl, rfl, _, _, rfl, rfl, .inl ⟨_, rfl, _, _, rfl, rfl, (by show (2147483399 : Int) ≠ 0; decide), .inl ⟨_, rfl, _, rfl, _, _, rfl, rfl, hmN, ?_⟩⟩⟩
        exact q _ _ K1.upd.upd ((D1.set h0).set h0) (fun z => by omega) (fun _ => fm _)
end
end Vf

set_option Elab.async false
set_option linter.all false
set_option maxRecDepth 100000
set_option maxHeartbeats 4000000
namespace Vf
open PySem PySem.Spec PyProof.Rows L2 TL
/-! ### the mathematics of tokens -/
def sW : Str := "abcdefghijklmnopqrstuvwxyz0123456789.,:;!?'()+=<>*/"
def sL : Str := "abcdefghijklmnopqrstuvwxyz"
def sB : Str := " \n"
def sOdd : Str := "\"#$&-ABCDEFGHIJKLMNOPQRSTUVWXYZ[\\]^_`|~"
def cW (c : Nat) : Bool := decide (c ∈ sW.cps.toList)
def cL (c : Nat) : Bool := decide (c ∈ sL.cps.toList)
def cB (c : Nat) : Bool := decide (c ∈ sB.cps.toList)
/-- the text of these signs -/
def mkS (zs : List Nat) : Str := ⟨zs.toArray⟩
def sV (zs : List Nat) : V := .str (mkS zs)
theorem mkS_cps (zs : List Nat) : (mkS zs).cps.toList = zs := rfl
theorem mkS_of (z : Str) : mkS z.cps.toList = z := rfl
theorem mkS_len (zs : List Nat) : (mkS zs).length = zs.length := by simp [mkS, Str.length]
theorem len_cps (z : Str) : z.length = z.cps.toList.length := by simp [Str.length]
theorem mkS_app (a b : List Nat) : mkS a ++ mkS b = mkS (a ++ b) := by
  have h : (mkS a ++ mkS b).cps.toList = a ++ b := by rw [Str.cps_append, Array.toList_append]; rfl
  rw [← h]
  rfl
theorem mkS_inj {a b : List Nat} (h : mkS a = mkS b) : a = b := by
  have h2 := congrArg (fun z : Str => z.cps.toList) h
  exact h2
theorem sW_list : sW.cps.toList = [97,98,99,100,101,102,103,104,105,106,107,108,109,110,111,112,113,114,115,116,117,118,119,120,121,122,48,49,50,51,52,53,54,55,56,57,46,44,58,59,33,63,39,40,41,43,61,60,62,42,47] := by decide +kernel
theorem sL_list : sL.cps.toList = [97,98,99,100,101,102,103,104,105,106,107,108,109,110,111,112,113,114,115,116,117,118,119,120,121,122] := by decide +kernel
theorem sB_list : sB.cps.toList = [32, 10] := by decide +kernel
theorem cL_W {c : Nat} (h : cL c = true) : cW c = true := by
  have h1 := of_decide_eq_true h
  refine decide_eq_true ?_
  rw [sL_list] at h1
  rw [sW_list]
  rw [show ([97,98,99,100,101,102,103,104,105,106,107,108,109,110,111,112,113,114,115,116,117,118,119,120,121,122,48,49,50,51,52,53,54,55,56,57,46,44,58,59,33,63,39,40,41,43,61,60,62,42,47] : List Nat) = [97,98,99,100,101,102,103,104,105,106,107,108,109,110,111,112,113,114,115,116,117,118,119,120,121,122] ++ [48,49,50,51,52,53,54,55,56,57,46,44,58,59,33,63,39,40,41,43,61,60,62,42,47] from rfl]
  exact List.mem_append_left _ h1
theorem cW_B {c : Nat} (h : cW c = true) : cB c = false := by
  refine decide_eq_false fun h2 => ?_
  rw [sB_list] at h2
  have h1 := of_decide_eq_true h
  rw [sW_list] at h1
  simp only [List.mem_cons, List.not_mem_nil, or_false] at h2
  rcases h2 with rfl | rfl
  · exact absurd h1 (by decide)
  · exact absurd h1 (by decide)
theorem cW_at : cW 64 = false := by
  unfold cW
  rw [sW_list]
  decide
theorem cB_at : cB 64 = false := by
  unfold cB
  rw [sB_list]
  decide
theorem cW_ne {c : Nat} (h : cW c = true) : c ≠ 64 := fun e => by
  rw [e, cW_at] at h
  cases h
theorem drop_le {α : Type} (p : α → Bool) : ∀ l : List α, (l.dropWhile p).length ≤ l.length
  | [] => Nat.le_refl _
  | c :: r => by
    rw [List.dropWhile_cons]
    split
    · exact Nat.le_trans (drop_le p r) (Nat.le_succ _)
    · exact Nat.le_refl _
/-- the tokens of a text -/
def tokF : Nat → List Nat → List (List Nat)
  | 0, _ => []
  | _ + 1, [] => []
  | n + 1, c :: r =>
    if cB c then tokF n r else if c = 64 then (c :: r.takeWhile cL) :: tokF n (r.dropWhile cL)
    else if cW c then (c :: r.takeWhile cW) :: tokF n (r.dropWhile cW) else [c] :: tokF n r
theorem tokF_more : ∀ (n m : Nat) (zs : List Nat), zs.length ≤ n → zs.length ≤ m → tokF n zs = tokF m zs
  | 0, 0, _, _, _ => rfl
  | 0, m + 1, zs, h, _ => by
    have e : zs = [] := List.length_eq_zero_iff.mp (Nat.le_zero.mp h)
    subst e
    rfl
  | n + 1, 0, zs, _, h => by
    have e : zs = [] := List.length_eq_zero_iff.mp (Nat.le_zero.mp h)
    subst e
    rfl
  | n + 1, m + 1, [], _, _ => rfl
  | n + 1, m + 1, c :: r, h1, h2 => by
    have a1 : r.length ≤ n := Nat.le_of_succ_le_succ h1
    have a2 : r.length ≤ m := Nat.le_of_succ_le_succ h2
    have d1 := drop_le cL r
    have d2 := drop_le cW r
    show (if cB c then tokF n r else if c = 64 then (c :: r.takeWhile cL) :: tokF n (r.dropWhile cL) else if cW c then (c :: r.takeWhile cW) :: tokF n (r.dropWhile cW) else [c] :: tokF n r) =
      (if cB c then tokF m r else if c = 64 then (c :: r.takeWhile cL) :: tokF m (r.dropWhile cL) else if cW c then (c :: r.takeWhile cW) :: tokF m (r.dropWhile cW) else [c] :: tokF m r)
    rw [tokF_more n m r a1 a2, tokF_more n m _ (Nat.le_trans d1 a1) (Nat.le_trans d1 a2), tokF_more n m _ (Nat.le_trans d2 a1) (Nat.le_trans d2 a2)]
def tok (zs : List Nat) : List (List Nat) := tokF zs.length zs
theorem tok_nil : tok [] = [] := rfl
theorem tok_cons (c : Nat) (r : List Nat) : tok (c :: r) = if cB c then tok r else if c = 64 then (c :: r.takeWhile cL) :: tok (r.dropWhile cL)
    else if cW c then (c :: r.takeWhile cW) :: tok (r.dropWhile cW) else [c] :: tok r := by
  show (if cB c then tokF r.length r else if c = 64 then (c :: r.takeWhile cL) :: tokF r.length (r.dropWhile cL) else if cW c then (c :: r.takeWhile cW) :: tokF r.length (r.dropWhile cW) else [c] :: tokF r.length r) = _
  rw [tokF_more r.length (r.dropWhile cL).length (r.dropWhile cL) (drop_le _ _) (Nat.le_refl _), tokF_more r.length (r.dropWhile cW).length (r.dropWhile cW) (drop_le _ _) (Nat.le_refl _)]
  rfl
/-! #### what the law's own walk has found, and how it goes on -/
def cont : Nat → List (List Nat) → List Nat → List (List Nat)
  | 1, f, r => f.dropLast ++ ((f.getLast?.getD []) ++ r.takeWhile cW) :: tok (r.dropWhile cW)
  | 2, f, r => f.dropLast ++ ((f.getLast?.getD []) ++ r.takeWhile cL) :: tok (r.dropWhile cL)
  | _, f, r => f ++ tok r
theorem cont0 (f : List (List Nat)) (r : List Nat) : cont 0 f r = f ++ tok r := rfl
theorem cont1 (g : List (List Nat)) (t r : List Nat) : cont 1 (g ++ [t]) r = g ++ (t ++ r.takeWhile cW) :: tok (r.dropWhile cW) := by
  show (g ++ [t]).dropLast ++ (((g ++ [t]).getLast?.getD []) ++ r.takeWhile cW) :: tok (r.dropWhile cW) = _
  rw [List.dropLast_concat, List.getLast?_concat]; rfl
theorem cont2 (g : List (List Nat)) (t r : List Nat) : cont 2 (g ++ [t]) r = g ++ (t ++ r.takeWhile cL) :: tok (r.dropWhile cL) := by
  show (g ++ [t]).dropLast ++ (((g ++ [t]).getLast?.getD []) ++ r.takeWhile cL) :: tok (r.dropWhile cL) = _
  rw [List.dropLast_concat, List.getLast?_concat]; rfl
/-- a sign that goes on -/
theorem cont1_on {c : Nat} (h : cW c = true) (g : List (List Nat)) (t r : List Nat) : cont 1 (g ++ [t]) (c :: r) = cont 1 (g ++ [t ++ [c]]) r := by
  rw [cont1, cont1, List.takeWhile_cons_of_pos h, List.dropWhile_cons_of_pos h, List.append_assoc]; rfl
theorem cont2_on {c : Nat} (h : cL c = true) (g : List (List Nat)) (t r : List Nat) : cont 2 (g ++ [t]) (c :: r) = cont 2 (g ++ [t ++ [c]]) r := by
  rw [cont2, cont2, List.takeWhile_cons_of_pos h, List.dropWhile_cons_of_pos h, List.append_assoc]; rfl
/-- a sign that doesn't -/
theorem cont1_off {c : Nat} (h : cW c = false) (g : List (List Nat)) (t r : List Nat) : cont 1 (g ++ [t]) (c :: r) = cont 0 (g ++ [t]) (c :: r) := by
  rw [cont1, cont0, List.takeWhile_cons_of_neg (by rw [h]; decide), List.dropWhile_cons_of_neg (by rw [h]; decide), List.append_nil, List.append_assoc]; rfl
theorem cont2_off {c : Nat} (h : cL c = false) (g : List (List Nat)) (t r : List Nat) : cont 2 (g ++ [t]) (c :: r) = cont 0 (g ++ [t]) (c :: r) := by
  rw [cont2, cont0, List.takeWhile_cons_of_neg (by rw [h]; decide), List.dropWhile_cons_of_neg (by rw [h]; decide), List.append_nil, List.append_assoc]; rfl
theorem cont_blank {c : Nat} (h : cB c = true) (f : List (List Nat)) (r : List Nat) : cont 0 f (c :: r) = cont 0 f r := by
  rw [cont0, cont0, tok_cons, if_pos h]
theorem cont_at (f : List (List Nat)) (r : List Nat) : cont 0 f (64 :: r) = cont 2 (f ++ [[64]]) r := by
  rw [cont0, cont2, tok_cons, if_neg (by rw [cB_at]; decide), if_pos rfl]; rfl
theorem cont_word {c : Nat} (h : cW c = true) (f : List (List Nat)) (r : List Nat) : cont 0 f (c :: r) = cont 1 (f ++ [[c]]) r := by
  rw [cont0, cont1, tok_cons, if_neg (by rw [cW_B h]; decide), if_neg (cW_ne h), if_pos h]; rfl
theorem cont_odd {c : Nat} (hb : cB c = false) (h : cW c = false) (ha : c ≠ 64) (f : List (List Nat)) (r : List Nat) : cont 0 f (c :: r) = cont 0 (f ++ [[c]]) r := by
  rw [cont0, cont0, tok_cons, if_neg (by rw [hb]; decide), if_neg ha, if_neg (by rw [h]; decide), List.append_assoc]; rfl
theorem cont_end1 (g : List (List Nat)) (t : List Nat) : cont 1 (g ++ [t]) [] = g ++ [t] := by
  rw [cont1]; show g ++ [t ++ []] = _; rw [List.append_nil]
theorem cont_end2 (g : List (List Nat)) (t : List Nat) : cont 2 (g ++ [t]) [] = g ++ [t] := by
  rw [cont2]; show g ++ [t ++ []] = _; rw [List.append_nil]
theorem cont_end0 (f : List (List Nat)) : cont 0 f [] = f := by
  rw [cont0, tok_nil, List.append_nil]
/-! #### tokens put together -/
/-- blanks and line feeds alone -/
def Bl (g : List Nat) : Prop := ∀ c ∈ g, cB c = true
/-- a token -/
def Tk (t : List Nat) : Prop := (∃ c, t = [c] ∧ cB c = false ∧ cW c = false ∧ c ≠ 64) ∨ (∃ r, t = 64 :: r ∧ ∀ c ∈ r, cL c = true) ∨ (t ≠ [] ∧ ∀ c ∈ t, cW c = true)
/-- the one runs on into the other -/
def runs (t u : List Nat) : Bool := if t.headD 0 = 64 then cL (u.headD 0) else cW (t.headD 0) && cW (u.headD 0)
theorem tok_gap : ∀ (g r : List Nat), Bl g → tok (g ++ r) = tok r
  | [], _, _ => rfl
  | c :: g, r, h => by
    rw [List.cons_append, tok_cons, if_pos (h c List.mem_cons_self)]
    exact tok_gap g r fun z hz => h z (List.mem_cons_of_mem _ hz)
theorem take_all {p : Nat → Bool} : ∀ (t r : List Nat), (∀ c ∈ t, p c = true) → (∀ c r', r = c :: r' → p c = false) → (t ++ r).takeWhile p = t ∧ (t ++ r).dropWhile p = r
  | [], [], _, _ => ⟨rfl, rfl⟩
  | [], c :: r, _, h => by
    have e := h c r rfl
    rw [List.nil_append, List.takeWhile_cons_of_neg (by rw [e]; decide), List.dropWhile_cons_of_neg (by rw [e]; decide)]
    exact ⟨rfl, rfl⟩
  | c :: t, r, ht, h => by
    have ⟨a, b⟩ := take_all t r (fun z hz => ht z (List.mem_cons_of_mem _ hz)) h
    rw [List.cons_append, List.takeWhile_cons_of_pos (ht c List.mem_cons_self), List.dropWhile_cons_of_pos (ht c List.mem_cons_self), a, b]
    exact ⟨rfl, rfl⟩
theorem tok_tok {t r : List Nat} (h : Tk t) (hr : r = [] ∨ runs t r = false) : tok (t ++ r) = t :: tok r := by
  rcases h with ⟨c, rfl, hb, hw, ha⟩ | ⟨u, rfl, hu⟩ | ⟨hn, hw⟩
  · show tok (c :: r) = _
    rw [tok_cons, if_neg (by rw [hb]; decide), if_neg ha, if_neg (by rw [hw]; decide)]
  · have hs : ∀ c r', r = c :: r' → cL c = false := by
      intro c r' e
      rcases hr with z | z
      · rw [z] at e; cases e
      · subst e; exact z
    have ⟨a, b⟩ := take_all u r hu hs
    rw [List.cons_append, tok_cons, if_neg (by rw [cB_at]; decide), if_pos rfl, a, b]
  · cases t with
    | nil => exact absurd rfl hn
    | cons c u =>
      have hc := hw c List.mem_cons_self
      have hs : ∀ x r', r = x :: r' → cW x = false := by
        intro x r' e
        rcases hr with z | z
        · rw [z] at e; cases e
        · subst e
          unfold runs at z
          rw [show (c :: u).headD 0 = c from rfl, if_neg (cW_ne hc), hc] at z
          exact z
      have ⟨a, b⟩ := take_all u r (fun z hz => hw z (List.mem_cons_of_mem _ hz)) hs
      rw [List.cons_append, tok_cons, if_neg (by rw [cW_B hc]; decide), if_neg (cW_ne hc), if_pos hc, a, b]
/-- tokens and the gaps behind them, put into one row -/
def mixed : List (List Nat) → List (List Nat) → List Nat
  | t :: ts, g :: gs => t ++ (g ++ mixed ts gs)
  | _, _ => []
/-- what is asked of a gap behind token k -/
def need (ts : List (List Nat)) (k : Nat) : Bool := match ts[k]?, ts[k + 1]? with
  | some t, some u => runs t u
  | _, _ => false
theorem runs_bl {t g r : List Nat} (hn : g ≠ []) (hg : Bl g) : runs t (g ++ r) = false := by
  cases g with
  | nil => exact absurd rfl hn
  | cons c g =>
    have hb := hg c List.mem_cons_self
    have hw : cW c = false := by
      cases e : cW c with
      | false => rfl
      | true => rw [cW_B e] at hb; cases hb
    have hl : cL c = false := by
      cases e : cL c with
      | false => rfl
      | true => rw [cL_W e] at hw; cases hw
    unfold runs
    rw [List.cons_append]
    show (if t.headD 0 = 64 then cL c else cW (t.headD 0) && cW c) = false
    rw [hl, hw, Bool.and_false]
    split <;> rfl
theorem runs_head {t u r : List Nat} (hu : u ≠ []) : runs t (u ++ r) = runs t u := by
  cases u with
  | nil => exact absurd rfl hu
  | cons c u => rfl
theorem Tk.ne {t : List Nat} (h : Tk t) : t ≠ [] := by
  rcases h with ⟨c, rfl, _⟩ | ⟨r, rfl, _⟩ | ⟨h, _⟩
  · exact fun e => by cases e
  · exact fun e => by cases e
  · exact h
theorem tok_mixed : ∀ (ts gs : List (List Nat)), (∀ t ∈ ts, Tk t) → gs.length = ts.length → (∀ k g, gs[k]? = some g → Bl g ∧ (need ts k = true → g ≠ [])) → tok (mixed ts gs) = ts
  | [], [], _, _, _ => rfl
  | [], _ :: _, _, h, _ => by cases h
  | _ :: _, [], _, h, _ => by cases h
  | t :: ts, g :: gs, ht, hl, hg => by
    have ih := tok_mixed ts gs (fun u hu => ht u (List.mem_cons_of_mem _ hu)) (Nat.succ.inj hl) (fun k g' e => by
      have := hg (k + 1) g' e
      exact this)
    obtain ⟨hb, hne⟩ := hg 0 g rfl
    show tok (t ++ (g ++ mixed ts gs)) = t :: ts
    rw [tok_tok (ht t List.mem_cons_self), tok_gap g _ hb, ih]
    by_cases e : g = []
    · subst e
      rw [List.nil_append]
      cases ts with
      | nil => exact .inl (by cases gs <;> rfl)
      | cons u us =>
        cases gs with
        | nil => cases hl
        | cons g2 gs2 =>
          refine .inr ?_
          show runs t (u ++ (g2 ++ mixed us gs2)) = false
          rw [runs_head (ht u (List.mem_cons_of_mem _ List.mem_cons_self)).ne]
          cases q : runs t u with
          | false => rfl
          | true => exact absurd rfl (hne q)
    · exact .inr (runs_bl e hb)
/-! #### small things -/
theorem take_succ' {α : Type} {l : List α} {i : Nat} {x : α} (h : l[i]? = some x) : l.take (i + 1) = l.take i ++ [x] := by
  rw [List.take_add_one, h]; rfl
theorem big_ok {n : Nat} (h : n ≤ 100000) : n ≤ sizeLine := Nat.le_trans h (by decide)
theorem get_sV {ts : List (List Nat)} {i : Nat} {t : List Nat} (h : ts[i]? = some t) : (ts.map sV)[i]? = some (sV t) := by
  rw [List.getElem?_map, h]; rfl
theorem drop_at {zs : List Nat} {i c : Nat} (h : zs[i]? = some c) : zs.drop i = c :: zs.drop (i + 1) := by
  have ⟨h1, h2⟩ := List.getElem?_eq_some_iff.mp h
  rw [List.drop_eq_getElem_cons h1, h2]
theorem same_mut {H H' : Hp} {p : Addr} {o : HO} (a : Same H H') (hp : H p = none) : Same H (upd H' p o) := fun x u h => by
  rw [upd_ne (ne_of_none h hp)]; exact a x u h
theorem same_upd {H H' : Hp} {p : Addr} {o : HO} (a : Same H H') (hp : H' p = none) : Same H (upd H' p o) := fun x u h => by
  have h2 := a x u h
  rw [upd_ne (ne_of_none h2 hp)]; exact h2
theorem dec_sign (c : Nat) (z : Str) (e : Nat) (hz : z = mkS [e]) : decide (V.str ⟨#[c]⟩ = V.str z) = decide (c = e) := by
  rw [hz]
  by_cases h : c = e
  · subst h; rw [decide_eq_true rfl]; exact decide_eq_true rfl
  · rw [decide_eq_false h]
    refine decide_eq_false fun q => h ?_
    have e2 : mkS [c] = mkS [e] := V.str.inj q
    have e3 := mkS_inj e2
    injection e3
theorem tf (b : Bool) : b = true ∨ b = false := by cases b <;> simp
theorem bl_of {p : Prop} [Decidable p] {b : Bool} (h : decide p = b) : V.bl (decide p) = V.bl b := congrArg V.bl h
theorem at_mk : (("@" : Str)) = mkS [64] := by decide +kernel
/-! ### texts put together -/
theorem empty_mk : (("" : Str)) = mkS [] := by decide +kernel
theorem map_sV (zss : List (List Nat)) : zss.map sV = (zss.map mkS).map V.str := by
  rw [List.map_map]; rfl
theorem sum_len : ∀ zss : List (List Nat), ((zss.map mkS).map (·.length)).sum = zss.flatten.length
  | [] => rfl
  | z :: r => by
    rw [List.map_cons, List.map_cons, List.sum_cons, sum_len r, List.flatten_cons, List.length_append, mkS_len]
theorem joinL_nil : ∀ zss : List (List Nat), joinL [] zss = zss.flatten
  | [] => rfl
  | [z] => by show z = z ++ []; rw [List.append_nil]
  | z :: y :: r => by
    show z ++ ([] ++ joinL [] (y :: r)) = z ++ (y :: r).flatten
    rw [List.nil_append, joinL_nil (y :: r)]
theorem join_mk (zss : List (List Nat)) : Txt.join ("" : Str) (zss.map mkS) = mkS zss.flatten := by
  have h : tl (Txt.join ("" : Str) (zss.map mkS)) = zss.flatten := by
    rw [join_eq, tl_join, show (zss.map mkS).map tl = zss from (by rw [List.map_map]; exact List.map_id'' (fun _ => rfl) zss), empty_mk]
    exact joinL_nil zss
  rw [← h]; rfl
theorem flat_len {B : Nat} : ∀ {zss : List (List Nat)}, (∀ z ∈ zss, z.length ≤ B) → zss.flatten.length ≤ zss.length * B
  | [], _ => Nat.zero_le _
  | z :: r, h => by
    have ih := flat_len (zss := r) fun y hy => h y (List.mem_cons_of_mem _ hy)
    have hz := h z List.mem_cons_self
    rw [List.flatten_cons, List.length_append, List.length_cons, Nat.succ_mul]
    omega
theorem flat_one : ∀ {zss : List (List Nat)}, (∀ z ∈ zss, z.length = 1) → zss.flatten.length = zss.length
  | [], _ => rfl
  | z :: r, h => by
    rw [List.flatten_cons, List.length_append, List.length_cons, flat_one fun y hy => h y (List.mem_cons_of_mem _ hy), h z List.mem_cons_self]
    omega
theorem blank_mk : ((" " : Str)) = mkS [32] := by decide +kernel
theorem feed_mk : (("\n" : Str)) = mkS [10] := by decide +kernel
end Vf

set_option Elab.async false
set_option linter.all false
set_option maxRecDepth 100000
set_option maxHeartbeats 4000000
namespace Vf
open PySem PySem.Spec PyProof.Rows L2 TL
/-- what the list of a comprehension holds: texts -/
def PvS (R : List Nat → Prop) (d l : Addr) (H : Hp) (D : Addr) (i : Nat) (H' : Hp) : Prop :=
  ∃ zss : List (List Nat), zss.length = i ∧ (∀ zs ∈ zss, R zs) ∧ Kp d H H' ∧ DI d l H' ∧ H' D = some (.lst (zss.map sV))
theorem PvS.start {R : List Nat → Prop} {d l D : Addr} {H : Hp} (hD : DI d l H) (nD : H D = none) : PvS R d l H D 0 (upd H D (.lst [])) :=
  ⟨[], rfl, (fun _ h => nomatch h), (Kp.refl d H).new nD, hD.new nD, upd_same⟩
theorem PvS.dice {R : List Nat → Prop} {d l D : Addr} {H H1 : Hp} {i : Nat} (p : PvS R d l H D i H1) : DI d l H1 := by
  obtain ⟨_, _, _, _, h, _⟩ := p
  exact h
theorem PvS.step {R : List Nat → Prop} {d l D : Addr} {H H1 H2 : Hp} {i : Nat} {zs : List Nat} (hD : DI d l H) (nD : H D = none) (p : PvS R d l H D i H1) (hi : i < 100000) (K2 : Kp d H1 H2) (D2 : DI d l H2) (r : R zs) :
    ∃ acc, H2 D = some (.lst acc) ∧ acc.length < sizeLine ∧ PvS R d l H D (i + 1) (upd H2 D (.lst (acc ++ [sV zs]))) := by
  obtain ⟨zss, hl, hR, K1, D1, e1⟩ := p
  have n1 := hD.nd nD
  have e2 : H2 D = some (.lst (zss.map sV)) := K2 _ _ n1.1 e1
  refine ⟨_, e2, ?_, zss ++ [zs], ?_, ?_, (K1.trans K2).mut nD, D2.at n1.1 n1.2, ?_⟩
  · rw [List.length_map, hl]
    exact Nat.lt_of_lt_of_le hi (by decide)
  · rw [List.length_append, hl]; rfl
  · intro z hz
    rcases List.mem_append.mp hz with h | h
    · exact hR z h
    · rw [List.mem_singleton.mp h]; exact r
  · rw [upd_same, List.map_append]; rfl
section
variable {P : Program} {w : World} {K : PySem.W.Frag} {mg : Str → Option Value} {base : Heap}
/-! ### pick, rare -/
/-- what is picked from -/
def Row (K : PySem.W.Frag) (H : Hp) (d : Addr) (row : V) (xs : List V) : Prop :=
  (∃ a, row = .ref a ∧ a ≠ d ∧ SqL K H a xs) ∨ ∃ zs, row = sV zs ∧ xs = zs.map fun c => sV [c]
def spPick (K : PySem.W.Frag) : Sp := fun vs H Q _ => ∃ (d l : Addr) (row : V) (xs : List V), vs = [.ref d, row] ∧ DI d l H ∧ Row K H d row xs ∧ 0 < xs.length ∧ xs.length ≤ 1000 ∧
  ∀ H' v, Kp d H H' → DI d l H' → v ∈ xs → Q v H'
theorem at_draw {xs : List V} {r : Int} (h : 0 < xs.length) (h1 : (xs.length : Int) < 2 → r = 0) (h2 : 2 ≤ (xs.length : Int) → 0 ≤ r ∧ r < (xs.length : Int)) :
    ∃ (j : Nat) (hj : j < xs.length), r = (j : Int) := by
  by_cases h3 : 2 ≤ (xs.length : Int)
  · have ⟨a, b⟩ := h2 h3
    exact ⟨r.toNat, by omega, by omega⟩
  · exact ⟨0, h, by rw [h1 (by omega)]; rfl⟩
theorem ok_pick (T : Txt K mg) : FnOk P w K mg base CX0 2 T.a_law_pick T.d_law_pick ["_law_d", "_law_row"] (spPick K) := by
  have G_law_draw : FnOk P w K mg base CX0 1 T.a_law_draw T.d_law_draw ["_law_d", "_law_many"] spDraw := ok_draw T
  refine T.D_law_pick.F.ok sc_law_pick (fun vs H Q E h => ?_) (fun cdv A outer s H vs Q E hr h => ?_)
  · obtain ⟨d, l, row, xs, rfl, _⟩ := h
    rfl
  · obtain ⟨d, l, row, xs, rfl, hD, hR, h0, hx, q⟩ := h
    refine ⟨_, (pss_one (ps_ret (pe_ix ix_seq (pv 1) (pe_call G_law_draw (hr.mono (by decide)) (by rfl) T.D_law_draw.G T.D_law_draw.F.kp T.D_law_draw.B .nil pass0 (pa_cons (pv 0) (pa_cons (pe_callB call_len (by rfl) T.n_len PySem.boot_len (pa_cons (pv 1) pa_nil)) pa_nil))) (fun _ _ => rfl)))), ?_⟩
    have hlen : LenV K row H xs.length := by
      rcases hR with ⟨a, rfl, _, hS⟩ | ⟨zs, rfl, rfl⟩
      · exact .inl ⟨_, hS, rfl⟩
      · rw [List.length_map] at hx ⊢
        refine ⟨?_, (mkS_len zs).symm⟩
        rw [mkS_len]
        exact Nat.le_trans hx (by decide)
    refine ⟨_, rfl, _, rfl, _, rfl, _, _, rfl, hlen, d, l, _, rfl, hD, by omega, fun H' r k D' e1 e2 => ?_⟩
    obtain ⟨j, hj, rfl⟩ := at_draw h0 e1 e2
    rcases hR with ⟨a, rfl, nd, hS⟩ | ⟨zs, rfl, rfl⟩
    · exact .inl ⟨a, xs, _, xs[j], rfl, rfl, k.sq nd hS, atI_nat (List.getElem?_eq_getElem hj), q H' _ k D' (List.getElem_mem hj)⟩
    · have hj2 : j < zs.length := by rw [List.length_map] at hj; exact hj
      refine .inr (.inr ⟨mkS zs, _, zs[j], rfl, rfl, ?_, ?_, q H' _ k D' (List.mem_map.mpr ⟨zs[j], List.getElem_mem hj2, rfl⟩)⟩)
      · rw [mkS_len]; rw [List.length_map] at hx; exact Nat.le_trans hx (by decide)
      · rw [mkS_cps]; exact atI_nat (List.getElem?_eq_getElem hj2)
def spRare : Sp := fun vs H Q _ => ∃ (d l : Addr) (m : Int), vs = [.ref d, .int m] ∧ DI d l H ∧ m ≤ 1000000 ∧ ∀ H' b, Kp d H H' → DI d l H' → Q (.bl b) H'
theorem ok_rare (T : Txt K mg) : FnOk P w K mg base CX0 2 T.a_law_rare T.d_law_rare ["_law_d", "_law_many"] spRare := by
  have G_law_draw : FnOk P w K mg base CX0 1 T.a_law_draw T.d_law_draw ["_law_d", "_law_many"] spDraw := ok_draw T
  refine T.D_law_rare.F.ok sc_law_rare (fun vs H Q E h => ?_) (fun cdv A outer s H vs Q E hr h => ?_)
  · obtain ⟨d, l, m, rfl, _⟩ := h
    rfl
  · obtain ⟨d, l, m, rfl, hD, hm, q⟩ := h
    refine ⟨_, (pss_one (ps_ret (pe_cmpR op_eq (pe_call G_law_draw (hr.mono (by decide)) (by rfl) T.D_law_draw.G T.D_law_draw.F.kp T.D_law_draw.B .nil pass0 (pa_cons (pv 0) (pa_cons (pv 1) pa_nil))) (pe_op op_fdivN (pe_op op_mul (pv 1) pe_int) pe_int) (nomark _)))), ?_⟩
    refine ⟨_, rfl, _, rfl, d, l, m, rfl, hD, (by omega), fun H' r k D' e1 e2 => ?_⟩
    exact ⟨_, rfl, _, _, rfl, rfl, .inr ⟨by decide, by decide⟩, _, _, rfl, rfl, ⟨by decide, by decide⟩, rfl, q H' _ k D'⟩
/-! ### run, word -/
def spRun : Sp := fun vs H Q _ => ∃ (d l : Addr) (cs : List Nat) (n : Int), vs = [.ref d, sV cs, .int n] ∧ DI d l H ∧ 0 < cs.length ∧ cs.length ≤ 1000 ∧ 0 ≤ n ∧ n ≤ 1000 ∧
  ∀ H' zs, Kp d H H' → DI d l H' → (zs.length : Int) = n → (∀ c ∈ zs, c ∈ cs) → Q (sV zs) H'
/-- texts of one sign each -/
def One (cs zs : List Nat) : Prop := ∃ c, zs = [c] ∧ c ∈ cs
theorem one_flat {cs : List Nat} : ∀ {zss : List (List Nat)}, (∀ z ∈ zss, One cs z) → zss.flatten.length = zss.length ∧ ∀ c ∈ zss.flatten, c ∈ cs
  | [], _ => ⟨rfl, fun _ h => nomatch h⟩
  | z :: r, h => by
    obtain ⟨c, rfl, hc⟩ := h z List.mem_cons_self
    have ⟨a, b⟩ := one_flat (zss := r) fun y hy => h y (List.mem_cons_of_mem _ hy)
    rw [List.flatten_cons]
    refine ⟨by rw [List.length_append, a]; show 1 + r.length = r.length + 1; omega, fun x hx => ?_⟩
    rcases List.mem_append.mp hx with e | e
    · rw [List.mem_singleton.mp e]; exact hc
    · exact b x e
theorem pick_one {d l : Addr} {cs : List Nat} {H : Hp} {Q : VK} (hD : DI d l H) (h0 : 0 < cs.length) (hx : cs.length ≤ 1000) (q : ∀ H' zs, Kp d H H' → DI d l H' → One cs zs → Q (sV zs) H') : spPick K [.ref d, sV cs] H Q E0 := by
  refine ⟨d, l, _, _, rfl, hD, .inr ⟨cs, rfl, rfl⟩, by rw [List.length_map]; exact h0, by rw [List.length_map]; exact hx, fun H' v k D' hv => ?_⟩
  obtain ⟨c, hc, rfl⟩ := List.mem_map.mp hv
  exact q H' _ k D' ⟨c, rfl, hc⟩
def spWord : Sp := fun vs H Q _ => ∃ (d l : Addr) (lo hi : Int), vs = [.ref d, .int lo, .int hi] ∧ DI d l H ∧ 0 ≤ lo ∧ lo ≤ hi ∧ hi ≤ 900 ∧
  ∀ H' zs, Kp d H H' → DI d l H' → lo ≤ (zs.length : Int) → (zs.length : Int) ≤ hi → (∀ c ∈ zs, cW c = true) → Q (sV zs) H'
end
end Vf

set_option Elab.async false
set_option linter.all false
set_option maxRecDepth 100000
set_option maxHeartbeats 4000000
namespace Vf
open PySem PySem.Spec PyProof.Rows L2
/-! ### set comprehensions of ints -/
/-- y is put into the set at D that is being made -/
def AddI (w : World) (D : Addr) (y : V) (H : Hp) (N : Hp → Prop) : Prop :=
  ∃ (k : Int) (S : Int → Bool) (n : Nat), y = .int k ∧ H D = some (SetO w D S n) ∧ n + 1 < scanBound ∧ N (upd H D (SetO w D (fun j => S j || decide (j = k)) (if S k = true then n else n + 1)))
theorem add_runs {Y : Cx} {ps : List (Addr × Obj)} {τ : L2.St} {H : Hp} {t : Shared} {D : Addr} {y : V} {u : Value} {N : Hp → Prop} {F : Value → Shared → Prop} {R : Value → Shared → Prop} (I : Inv Y ps τ H t) (ky : RelV y u) (h : AddI Y.w D y H N)
    (go : ∀ t' H', Inv Y ps τ H' t' → N H' → R .none t') :
    wpAny (model Y.prog Y.w) Y.A (call (.builtin "set.add") [.ref D, u]) R F t := by
  obtain ⟨k, S, n, ey, eD, room, hN⟩ := h
  subst ey
  obtain ⟨tk, rfl⟩ := ky
  refine setR_add (setO_get I eD) room fun h' same r => ?_
  have he : ∃ x, h'.get? D = some x := by
    obtain ⟨o, es, ep, tt, ho, rest⟩ := id r
    exact ⟨o, ho⟩
  exact go _ _ (I.write (e := D) (t' := t.toks + 1) (by rw [eD]; trivial) (.inl rfl) (fun b x hb hx => (same.2 b hb).trans hx) he (setO_new r)) hN
section
variable {X : Cx}
/-- {e for target in iter if ..}, e an int: D the new set -/
def tScI (w : World) (wi : TI) (g : TG) (tt : TT) (tk : TE) (own : List Nat) : TE := fun σ H Q => wi σ H fun J Ha => ∀ D, Ha D = none →
  ∃ W : Nat → Nat → Hp → Prop, (∃ m, W 0 m (upd Ha D (SetO w D (fun _ => false) 0))) ∧ ∀ i m Hb, W i m Hb → (J.stop i Hb ∧ Q (.ref D) Hb) ∨
    (J.go i Hb ∧ ∃ N : Hp → Prop, (∀ Hc, N Hc → ∃ m', m' < m ∧ W (i + 1) m' Hc) ∧ ∀ x Hc, J.yld i Hb x Hc →
      g x (wipe σ own) Hc fun σ2 H2 => wipe σ2 own = wipe σ own ∧ tt σ2 H2 fun b H3 => if b = true then tk σ2 H3 fun y H4 => AddI w D y H4 N else N H3)
/-- the block's promise of each part, wherever the block's own room comes to stand -/
abbrev InBlk (X : Cx) (scope : Scope) (R : Cx → Prop) : Prop := ∀ (s : Shared) (H : Hp) (C : Addr) (cl : List (Str × Addr)) (fp : List Addr), R (X.blk s H scope (compEnvC scope cl C X.env) fp)
theorem scI_core {pins : List (Addr × Obj)} {s : Shared} {σ : L2.St} {H : Hp} {Q : VK} {kx tg iter : Expr} {ifs : List Expr} {scope : Scope} {own : List (Str × Nat)} {pos pos' : Pos} {wi : TI} {g : TG} {tt : TT} {tk : TE} {use : Option (Value → Sem Unit)} {Qf : Value → Shared → Prop}
    (calm : X.calm = true) (nd : X.N.Nodup) (I : Inv X pins σ H s) (pi : PI X tg iter wi) (bk : BlkOk X.N X.env.scope scope own)
    (pg : InBlk X scope fun Y => PG Y tg g) (pt : InBlk X scope fun Y => PTs Y ifs tt) (pk : InBlk X scope fun Y => PE Y kx tk) (fold : ∀ x, foldedSetIterable iter X.env x = pure x)
    (h : tScI X.w wi g tt tk (own.map (·.2)) σ H Q)
    (leave : ∀ (D C : Addr) t ms H', Inv X pins σ H' t → Q (.ref D) H' → t.heap.Ns C ms → FpOk X pins H' C → compPost (model X.prog X.w) X.A X.xe use Qf (.ref D) C (.ok .next) t) :
    wpAny (model X.prog X.w) X.A (comprehension (.SetComp kx [⟨tg, iter, ifs, 0⟩] scope pos) scope X.env pos' (newSet (.type "set")) false (eval iter X.env) use) Qf X.xe s := by
  have has : ∀ y ∈ scope.names, y.2 = .free → ∃ c, X.env.cells.lookup y.1 = some c := by
    intro y hy e
    exact (bk.free y hy e).elim (fun k => I.ok.has _ (.inl k)) (fun k => I.ok.has _ (.inr k))
  refine wpAny_comprehension_free (use := use) rfl fold (closure_ok has) bk.kind (fun y hy e => (bk.uniq y hy).trans (congrArg some e)) ?_
  refine thn (pi.run pins s σ H _ I h) fun v0 s1 w1 => thn w1 fun v1 s2 w2 => ?_
  obtain ⟨it, fp, tn, J, Ha, rfl, Ia, T, st, fs, q⟩ := w2
  refine PpSet.newSet_ok (newEnv_comp ?_)
  -- the new set stands at D
  obtain ⟨D, eD⟩ : ∃ D, D = s2.heap.objs.size := ⟨_, rfl⟩
  obtain ⟨W, ⟨m0, w0⟩, turn⟩ := q D (Ia.hok.fresh (Nat.le_of_eq eD.symm))
  obtain ⟨s3, es3⟩ : ∃ s3 : Shared, s3 = { s2 with heap := s2.heap.push { cls := .type "set", dict := none, data := .set #[] 0 (.fresh 0 0 (!X.w.params.followText "set-order")) } } := ⟨_, rfl⟩
  have eh : s3.heap = s2.heap.push { cls := .type "set", dict := none, data := .set #[] 0 (.fresh 0 0 (!X.w.params.followText "set-order")) } := by rw [es3]
  rw [← es3, ← eD]
  have Ib : Inv X pins σ (upd Ha D (SetO X.w D (fun _ => false) 0)) s3 := by
    rw [es3, eD]
    exact Ia.laid (t' := s2.toks) (fun b o e => Heap.get?_push_of_some _ e) (Nat.le_refl _) (setO_new (setR_fresh X.w))
  have lt : ∀ b ∈ fp, b < D := fun b hb => by
    have ⟨o, e, _⟩ := T.obj _ _ st b hb
    rw [eD]; exact Heap.lt_size e
  have fd : ∀ b ∈ fp, (upd Ha D (SetO X.w D (fun _ => false) 0)) b = none := fun b hb => (upd_ne (Nat.ne_of_lt (lt b hb))).trans (fs b hb).1
  have f3 : ∀ b ∈ fp, FpOk X pins (upd Ha D (SetO X.w D (fun _ => false) 0)) b ∧ b < s3.heap.objs.size := fun b hb =>
    ⟨⟨fd b hb, (fs b hb).2⟩, by rw [eh, Heap.size_push, ← eD]; exact Nat.lt_succ_of_lt (lt b hb)⟩
  have st3 : tn 0 s3.heap := T.keep _ _ _ st fun b _ o e => by rw [eh]; exact Heap.get?_push_of_some _ e
  have Ic := block_start Ib bk nd f3
  have G := pg s3 (upd Ha D (SetO X.w D (fun _ => false) 0)) s3.heap.objs.size (cellsFrom (s3.heap.objs.size + 1) scope.names (cloFrom X.env.cells scope.names [])) fp
  have S := pt s3 (upd Ha D (SetO X.w D (fun _ => false) 0)) s3.heap.objs.size (cellsFrom (s3.heap.objs.size + 1) scope.names (cloFrom X.env.cells scope.names [])) fp
  have Kx := pk s3 (upd Ha D (SetO X.w D (fun _ => false) 0)) s3.heap.objs.size (cellsFrom (s3.heap.objs.size + 1) scope.names (cloFrom X.env.cells scope.names [])) fp
  obtain ⟨ce, ece⟩ : ∃ ce, ce = compEnvC scope (cellsFrom (s3.heap.objs.size + 1) scope.names (cloFrom X.env.cells scope.names [])) s3.heap.objs.size X.env := ⟨_, rfl⟩
  have cl : ce.locals = s3.heap.objs.size := by rw [ece]; rfl
  obtain ⟨s4, es4⟩ : ∃ s4 : Shared, s4 = { s3 with heap := pushCells (s3.heap.push { cls := .type "dict", data := .dict #[] }) scope.names } := ⟨_, rfl⟩
  rw [← ece] at Ic G S Kx
  rw [← es4] at Ic
  have st4 : tn 0 s4.heap := T.keep _ _ _ st3 fun b _ o e => by rw [es4]; exact pushCells_keeps _ _ _ _ (Heap.get?_push_of_some _ e)
  have pinned : ∀ {τ : L2.St} {H' : Hp} {t : Shared}, Inv (X.blk s3 (upd Ha D (SetO X.w D (fun _ => false) 0)) scope ce fp) [] τ H' t → (∀ b ∈ fp, H' b = none) → ∀ b ∈ fp, FpOk (X.blk s3 (upd Ha D (SetO X.w D (fun _ => false) 0)) scope ce fp) [] H' b := by
    intro τ H' t I' free b hb
    have e1 := I'.ok.exf b hb
    exact ⟨free b hb, e1.1, I'.ok.exfs b hb, .inl hb, fun x c e => e1.2 x c e, fun p hp => by cases hp⟩
  -- what the loop keeps at its turn number i
  let Keep : Nat → Shared → Prop := fun n t => ∃ i H', Inv (X.blk s3 (upd Ha D (SetO X.w D (fun _ => false) 0)) scope ce fp) [] (wipe σ (own.map (·.2))) H' t ∧ tn i t.heap ∧ (∀ b ∈ fp, H' b = none) ∧ W i n H'
  have runs : codeAny (model X.prog X.w) X.A (.compLoop (.SetComp kx [⟨tg, iter, ifs, 0⟩] scope pos) 0 (.ref it) (.ref D) ce)
      (compPost (model X.prog X.w) X.A X.xe use Qf (.ref D) s3.heap.objs.size) s4 := by
    refine PpSet.compLoopS_any Keep ?_ m0 ⟨0, _, Ic, st4, fd, w0⟩
    intro n t1 ⟨i, Hb, I1, z1, free, w1⟩
    rcases turn i n Hb w1 with ⟨stop, hQ⟩ | ⟨go, N, less, step⟩
    · -- no further thing: back in the def
      refine thnF (T.done (X.blk s3 (upd Ha D (SetO X.w D (fun _ => false) 0)) scope ce fp) rfl rfl rfl calm i [] t1 _ Hb (fun _ _ => False) I1 (pinned I1 free) z1 stop) fun r t2 ⟨er, I2⟩ => ?_
      subst er
      have Iz : Inv X pins σ Hb t2 := Ib.call' (ch := fp) I2.os I2.base I2.hok I2.bare fun b hb =>
        have f := (f3 b hb).1.2
        ⟨f.2.2.1, f.1, f.2.2.2.1, f.2.2.2.2⟩
      obtain ⟨ms, hns, _⟩ := I2.loc
      have hns : t2.heap.Ns ce.locals ms := hns
      have nl : Hb ce.locals = none := I2.free
      rw [cl] at hns nl
      exact leave D _ t2 ms Hb Iz hQ hns (Ib.fpOk (Nat.le_refl _) nl)
    · refine thnF (T.item (X.blk s3 (upd Ha D (SetO X.w D (fun _ => false) 0)) scope ce fp) rfl rfl rfl calm i [] t1 _ Hb (fun _ _ => False) I1 (pinned I1 free) z1 go) fun r t2 ⟨u, er, a2⟩ => ?_
      subst er
      refine thnF a2 fun _ t3 ⟨x, Hc, I3, rx, y3, z3, free3⟩ => ?_
      refine thnF (G.run _ t3 _ Hc x u _ (I3.pinned (pinned I3 free3) (T.obj _ _ z3)) rx (step x Hc y3)) fun _ t4 ⟨σ2, H2, I4, ew, q4⟩ => ?_
      refine thnF (S.run _ t4 σ2 H2 _ I4 q4) fun b t5 ⟨H3, I5, q5⟩ => ?_
      -- how a turn ends, in the room of the block
      have close : ∀ {t : Shared} {H' : Hp}, Inv (X.blk s3 (upd Ha D (SetO X.w D (fun _ => false) 0)) scope ce fp) ([] ++ pinsAt fp t3.heap) σ2 H' t → N H' → ∃ m, m < n ∧ Keep m t := by
        intro t H' I' hN
        obtain ⟨m', hm, w'⟩ := less H' hN
        have still : ∀ b ∈ fp, ∀ o, t3.heap.get? b = some o → t.heap.get? b = some o ∧ H' b = none := by
          intro b hb o e
          have p := I'.pin (b, o) (List.mem_append_right _ (List.mem_append_right _ (mem_pinsAt hb e)))
          exact ⟨p.1, p.2.1⟩
        have len : (wipe σ (own.map (·.2))).length = σ2.length := by rw [← ew]; exact wipe_length _ _
        refine ⟨m', hm, i + 1, H', (I'.unpinned (pins := [])).weak len fun j v e => ?_, T.keep _ _ _ z3 fun b hb o e => (still b hb o e).1, fun b hb => ?_, w'⟩
        · rw [← ew] at e; exact (wipe_some e).1
        · have ⟨o, e, _⟩ := T.obj _ _ z3 b hb
          exact (still b hb o e).2
      cases b with
      | false => exact close I5 q5
      | true =>
        refine thnF (Kx.run _ t5 σ2 H3 _ I5 q5) fun ku t6 ⟨y, H4, I6, ry, q6⟩ => ?_
        exact add_runs (Y := X.blk s3 (upd Ha D (SetO X.w D (fun _ => false) 0)) scope ce fp) I6 ry q6 fun t8 H6 I8 n8 => close I8 n8
  have whole := PpSet.codeAny_compStart_set runs (T.self X.A 0 _ _ _ st4 runs)
  rw [ece, es4] at whole
  exact whole
/-- as a value -/
theorem pe_scI {kx tg iter : Expr} {ifs : List Expr} {scope : Scope} {own : List (Str × Nat)} {pos : Pos} {wi : TI} {g : TG} {tt : TT} {tk : TE} (calm : X.calm = true) (nd : X.N.Nodup) (pi : PI X tg iter wi) (bk : BlkOk X.N X.env.scope scope own)
    (pg : InBlk X scope fun Y => PG Y tg g) (pt : InBlk X scope fun Y => PTs Y ifs tt) (pk : InBlk X scope fun Y => PE Y kx tk) (fold : ∀ x, foldedSetIterable iter X.env x = pure x := by intro _; rfl) :
    PE X (.SetComp kx [⟨tg, iter, ifs, 0⟩] scope pos) (tScI X.w wi g tt tk (own.map (·.2))) := by
  constructor
  intro pins s σ H Q I h
  rw [PpSet.eval_SetComp]
  refine scI_core calm nd I pi bk pg pt pk fold h fun D C t ms H' I' hQ hns f => ⟨ms, hns, fun h2 sb => ?_⟩
  exact ⟨.ref D, H', I'.turned (t' := t.toks) (fun b o hb e => (sb.2 b hb).trans e) f.1 f.2.1 f.2.2.2.1 f.2.2.2.2.1 f.2.2.2.2.2, rfl, hQ⟩
end
/-- over any walk: Pv by the turn and the heap -/
theorem scI_it {ww : World} {J : It} {n : Nat} {G : Hp → Prop} {Y : Nat → Hp → V → Hp → Prop} (w : Walk J n G Y) {g : TG} {tt : TT} {tk : TE} {own : List Nat} {σ : L2.St} {Ha : Hp} {D : Addr} {Qd : Hp → Prop} (Pv : Nat → Hp → Prop) (start : Pv 0 (upd Ha D (SetO ww D (fun _ => false) 0))) (stays : ∀ i H, i ≤ n → Pv i H → G H)
    (turn : ∀ i x H H', i < n → Pv i H → Y i H x H' → g x (wipe σ own) H' fun σ2 H2 => wipe σ2 own = wipe σ own ∧ tt σ2 H2 fun b H3 => if b = true then tk σ2 H3 fun y H4 => AddI ww D y H4 (Pv (i + 1)) else Pv (i + 1) H3)
    (after : ∀ H, Pv n H → Qd H) :
    ∃ W : Nat → Nat → Hp → Prop, (∃ m, W 0 m (upd Ha D (SetO ww D (fun _ => false) 0))) ∧ ∀ i m Hb, W i m Hb → (J.stop i Hb ∧ Qd Hb) ∨
      (J.go i Hb ∧ ∃ N : Hp → Prop, (∀ Hc, N Hc → ∃ m', m' < m ∧ W (i + 1) m' Hc) ∧ ∀ x Hc, J.yld i Hb x Hc →
        g x (wipe σ own) Hc fun σ2 H2 => wipe σ2 own = wipe σ own ∧ tt σ2 H2 fun b H3 => if b = true then tk σ2 H3 fun y H4 => AddI ww D y H4 N else N H3) := by
  refine ⟨fun i m H => m + i = n ∧ Pv i H, ⟨n, by omega, start⟩, fun i m Hb h => ?_⟩
  have ⟨e, p⟩ := h
  have ok := stays i Hb (by omega) p
  rcases Nat.lt_or_ge i n with lt | ge
  · refine .inr ⟨w.goes i Hb lt ok, Pv (i + 1), fun Hc q => ⟨m - 1, by omega, by omega, q⟩, fun x Hc y => turn i x Hb Hc lt p (w.yields i Hb x Hc lt ok y)⟩
  · obtain rfl : i = n := by omega
    exact .inl ⟨w.stops Hb ok, after Hb p⟩
end Vf

set_option Elab.async false
set_option linter.all false
set_option maxRecDepth 100000
set_option maxHeartbeats 4000000
namespace Vf
open PySem PySem.Spec PyProof.Rows L2 TL
/-! ### rows of things, nets -/
def nV (w : Nat) : V := .int (w : Int)
def oV : Option Int → V
  | none => .non
  | some x => .int x
theorem oV_inj : ∀ {a b : Option Int}, oV a = oV b → a = b
  | none, none, _ => rfl
  | some _, some _, h => by rw [V.int.inj h]
  | none, some _, h => by cases h
  | some _, none, h => by cases h
theorem szN {n : Nat} (h : n < 100000) : n < sizeLine := Nat.lt_of_lt_of_le h (by decide)
theorem bTr {p : Prop} [Decidable p] (h : p) : V.bl (decide p) = V.bl true := by rw [decide_eq_true h]
theorem bFa {p : Prop} [Decidable p] (h : ¬ p) : V.bl (decide p) = V.bl false := by rw [decide_eq_false h]
theorem bNT {p : Prop} [Decidable p] (h : p) : V.bl (!decide p) = V.bl false := by rw [decide_eq_true h]; rfl
theorem bNF {p : Prop} [Decidable p] (h : ¬ p) : V.bl (!decide p) = V.bl true := by rw [decide_eq_false h]; rfl
/-- what stands in a list or tuple, thing by thing -/
def LV {α : Type} (R : V → α → Prop) (vs : List V) (rs : List α) : Prop := vs.length = rs.length ∧ ∀ (i : Nat) (r : α), rs[i]? = some r → ∃ x, vs[i]? = some x ∧ R x r
theorem LV.nil {α : Type} {R : V → α → Prop} : LV R [] [] := ⟨rfl, fun i r h => by cases i <;> cases h⟩
theorem LV.mono {α : Type} {R R' : V → α → Prop} {vs : List V} {rs : List α} (h : LV R vs rs) (k : ∀ x r, R x r → R' x r) : LV R' vs rs := ⟨h.1, fun i r e => by
  obtain ⟨x, e1, e2⟩ := h.2 i r e
  exact ⟨x, e1, k _ _ e2⟩⟩
theorem LV.snoc {α : Type} {R : V → α → Prop} {vs : List V} {rs : List α} {x : V} {r : α} (h : LV R vs rs) (hx : R x r) : LV R (vs ++ [x]) (rs ++ [r]) := by
  refine ⟨by rw [List.length_append, List.length_append, h.1]; rfl, fun i q e => ?_⟩
  by_cases hi : i < rs.length
  · rw [List.getElem?_append_left hi] at e
    obtain ⟨y, e1, e2⟩ := h.2 i q e
    exact ⟨y, by rw [List.getElem?_append_left (by rw [h.1]; exact hi)]; exact e1, e2⟩
  · rw [List.getElem?_append_right (by omega)] at e
    have e0 : i - rs.length = 0 := by
      have := (List.getElem?_eq_some_iff.mp e).1
      simp at this
      exact this
    rw [e0] at e
    have e : r = q := Option.some.inj e
    subst e
    exact ⟨x, by rw [List.getElem?_append_right (by rw [h.1]; omega), h.1, e0]; rfl, hx⟩
theorem LV.at {α : Type} {R : V → α → Prop} {vs : List V} {rs : List α} {i : Nat} {x : V} (h : LV R vs rs) (e : vs[i]? = some x) : ∃ r, rs[i]? = some r ∧ R x r := by
  have hi : i < rs.length := by rw [← h.1]; exact (List.getElem?_eq_some_iff.mp e).1
  obtain ⟨y, e1, e2⟩ := h.2 i _ (List.getElem?_eq_getElem hi)
  rw [e] at e1
  have := Option.some.inj e1
  subst this
  exact ⟨_, List.getElem?_eq_getElem hi, e2⟩
abbrev Arc := Nat × Nat × Nat
def ArcV (H : Hp) (x : V) (r : Arc) : Prop := ∃ b, x = .ref b ∧ H b = some (.tup [nV r.1, nV r.2.1, nV r.2.2])
theorem ArcV.mono {H H' : Hp} {x : V} {r : Arc} (h : ArcV H x r) (k : ∀ a xs, H a = some (.tup xs) → H' a = some (.tup xs)) : ArcV H' x r := by
  obtain ⟨b, e, f⟩ := h
  exact ⟨b, e, k _ _ f⟩
theorem kpTup {d l : Addr} {H H' : Hp} (D : DI d l H) (k : Kp d H H') : ∀ a xs, H a = some (.tup xs) → H' a = some (.tup xs) := fun a xs e => by
  obtain ⟨n, ⟨ns, h1⟩, i, b, s, c, h0, h2⟩ := D
  exact k _ _ (fun z => by rw [z, h2] at e; cases e) e
end Vf

set_option Elab.async false
set_option linter.all false
set_option maxRecDepth 100000
set_option maxHeartbeats 4000000
namespace Vf
open PySem PySem.Spec PyProof.Rows L2 TL
/-! ### data made of tuples -/
/-- all tuples stand -/
def TK (H H' : Hp) : Prop := ∀ a xs, H a = some (.tup xs) → H' a = some (.tup xs)
theorem TK.refl (H : Hp) : TK H H := fun _ _ h => h
theorem TK.trans {H H1 H2 : Hp} (a : TK H H1) (b : TK H1 H2) : TK H H2 := fun x xs h => b x xs (a x xs h)
theorem TK.kp {d l : Addr} {H H' : Hp} (D : DI d l H) (k : Kp d H H') : TK H H' := kpTup D k
theorem TK.same {H H' : Hp} (k : Same H H') : TK H H' := fun a xs e => k _ _ e
theorem TK.new {H H' : Hp} {p : Addr} {o : HO} (k : TK H H') (hp : H' p = none) : TK H (upd H' p o) := fun a xs e => by
  have e := k _ _ e
  rw [upd_ne (ne_of_none e hp)]; exact e
theorem TK.mut {H H' : Hp} {p : Addr} {us : List V} {o : HO} (k : TK H H') (hp : H' p = some (.lst us)) : TK H (upd H' p o) := fun a xs e => by
  have e := k _ _ e
  have n : a ≠ p := fun z => by rw [z, hp] at e; cases e
  rw [upd_ne n]; exact e
/-- a relation of things that holds on while all tuples stand -/
structure Mn {α : Type} (R : Hp → V → α → Prop) : Prop where
  to : ∀ {H H' : Hp} {v : V} {x : α}, R H v x → TK H H' → R H' v x
def natR : Hp → V → Nat → Prop := fun _ v n => v = nV n
theorem nV_inj {a b : Nat} (h : nV a = nV b) : a = b := by
  have := V.int.inj h
  omega
theorem natR_mn : Mn natR := ⟨fun h _ => h⟩
def TupR {α : Type} (R : Hp → V → α → Prop) (H : Hp) (v : V) (xs : List α) : Prop := ∃ a us, v = .ref a ∧ H a = some (.tup us) ∧ LV (R H) us xs
theorem TupR.mn {α : Type} {R : Hp → V → α → Prop} (m : Mn R) : Mn (TupR R) := ⟨fun h k => by
  obtain ⟨a, us, e, h1, h2⟩ := h
  exact ⟨a, us, e, k _ _ h1, h2.mono fun _ _ z => m.to z k⟩⟩
def PairR {α β : Type} (R : Hp → V → α → Prop) (S : Hp → V → β → Prop) (H : Hp) (v : V) (p : α × β) : Prop := ∃ a u w, v = .ref a ∧ H a = some (.tup [u, w]) ∧ R H u p.1 ∧ S H w p.2
theorem PairR.mn {α β : Type} {R : Hp → V → α → Prop} {S : Hp → V → β → Prop} (m : Mn R) (n : Mn S) : Mn (PairR R S) := ⟨fun h k => by
  obtain ⟨a, u, w, e, h1, h2, h3⟩ := h
  exact ⟨a, u, w, e, k _ _ h1, m.to h2 k, n.to h3 k⟩⟩
theorem LV.nats : ∀ {us : List V} {xs : List Nat}, LV (natR H) us xs → us = xs.map nV := by
  intro us xs h
  refine List.ext_getElem? fun i => ?_
  rw [List.getElem?_map]
  by_cases hi : i < xs.length
  · obtain ⟨x, e, r⟩ := h.2 i _ (List.getElem?_eq_getElem hi)
    rw [e, List.getElem?_eq_getElem hi, show x = nV xs[i] from r]; rfl
  · rw [List.getElem?_eq_none (by rw [h.1]; omega), List.getElem?_eq_none (by omega)]; rfl
theorem LV.of_nats (H : Hp) (xs : List Nat) : LV (natR H) (xs.map nV) xs := ⟨List.length_map _, fun i r e => ⟨nV r, by rw [List.getElem?_map, e]; rfl, rfl⟩⟩
/-- a tuple of numbers -/
def NsR : Hp → V → List Nat → Prop := fun H v xs => ∃ a, v = .ref a ∧ H a = some (.tup (xs.map nV))
theorem NsR.mn : Mn NsR := ⟨fun h k => by
  obtain ⟨a, e, h⟩ := h
  exact ⟨a, e, k _ _ h⟩⟩
theorem NsR.of {H : Hp} {v : V} {xs : List Nat} (h : TupR natR H v xs) : NsR H v xs := by
  obtain ⟨a, us, e, h1, h2⟩ := h
  rw [h2.nats] at h1
  exact ⟨a, e, h1⟩
theorem NsR.new {H : Hp} {p : Addr} {xs : List Nat} : NsR (upd H p (.tup (xs.map nV))) (.ref p) xs := ⟨p, rfl, upd_same⟩
theorem LV.get {α : Type} {R : V → α → Prop} {vs : List V} {rs : List α} {i : Nat} (h : LV R vs rs) (hi : i < rs.length) : ∃ x, vs[i]? = some x ∧ R x rs[i] := h.2 i _ (List.getElem?_eq_getElem hi)
theorem LV.get0 {α : Type} {R : V → α → Prop} {vs : List V} {rs : List α} {i : Nat} (d : α) (h : LV R vs rs) (hi : i < rs.length) : ∃ x, vs[i]? = some x ∧ R x (rs.getD i d) := by
  obtain ⟨x, e, r⟩ := h.get hi
  refine ⟨x, e, ?_⟩
  rw [List.getD_eq_getElem?_getD, List.getElem?_eq_getElem hi]; exact r
theorem LV.app2 {α : Type} {R : V → α → Prop} {us vs : List V} {rs ss : List α} (h : LV R us rs) (k : LV R vs ss) : LV R (us ++ vs) (rs ++ ss) := by
  refine ⟨by rw [List.length_append, List.length_append, h.1, k.1], fun i r e => ?_⟩
  by_cases hi : i < rs.length
  · rw [List.getElem?_append_left hi] at e
    obtain ⟨y, e1, e2⟩ := h.2 i r e
    exact ⟨y, by rw [List.getElem?_append_left (by rw [h.1]; exact hi)]; exact e1, e2⟩
  · rw [List.getElem?_append_right (by omega)] at e
    obtain ⟨y, e1, e2⟩ := k.2 _ r e
    exact ⟨y, by rw [List.getElem?_append_right (by rw [h.1]; omega), h.1]; exact e1, e2⟩
theorem nat_at {xs : List Nat} {i : Nat} (h : i < xs.length) : (xs.map nV)[i]? = some (nV (xs.getD i 0)) := by
  rw [List.getElem?_map, List.getD_eq_getElem?_getD, List.getElem?_eq_getElem h]; rfl
theorem getD_mem {α : Type} {xs : List α} {i : Nat} {d : α} (h : i < xs.length) : xs.getD i d ∈ xs := by
  rw [List.getD_eq_getElem?_getD, List.getElem?_eq_getElem h]; exact List.getElem_mem h
theorem getD_of {α : Type} {xs : List α} {i : Nat} {x d : α} (h : xs[i]? = some x) : xs.getD i d = x := by
  rw [List.getD_eq_getElem?_getD, h]; rfl
theorem take_one {α : Type} {xs : List α} {i : Nat} {x : α} (h : xs[i]? = some x) : xs.take (i + 1) = xs.take i ++ [x] := by
  rw [List.take_add_one, h]; rfl
theorem take_oneD {α : Type} {xs : List α} {i : Nat} (d : α) (h : i < xs.length) : xs.take (i + 1) = xs.take i ++ [xs.getD i d] := by
  rw [take_one (List.getElem?_eq_getElem h), List.getD_eq_getElem?_getD, List.getElem?_eq_getElem h]; rfl
theorem mem_at {α : Type} {xs : List α} {x : α} (h : x ∈ xs) : ∃ i, i < xs.length ∧ xs[i]? = some x := by
  obtain ⟨i, hi, e⟩ := List.mem_iff_getElem.mp h
  exact ⟨i, hi, by rw [List.getElem?_eq_getElem hi, e]⟩
theorem flat_nats (xs : List Nat) : (xs.map nV).all flatV = true := List.all_eq_true.mpr fun v hv => by
  obtain ⟨x, _, rfl⟩ := List.mem_map.mp hv
  rfl
theorem eqV_nat (x y : Nat) : eqV (nV y) (nV x) = decide (y = x) := by
  show eqV (.int (y : Int)) (.int (x : Int)) = _
  by_cases h : y = x
  · subst h; rw [decide_eq_true rfl]; simp [eqV]
  · rw [decide_eq_false h]
    have : ¬ (y : Int) = (x : Int) := by omega
    simp [eqV, this]
theorem inV_nats (x : Nat) (xs : List Nat) : inV (nV x) (xs.map nV) = decide (x ∈ xs) := by
  unfold inV
  rw [List.any_map]
  by_cases h : x ∈ xs
  · rw [decide_eq_true h]
    refine List.any_eq_true.mpr ⟨x, h, ?_⟩
    show eqV (nV x) (nV x) = true
    rw [eqV_nat]; exact decide_eq_true rfl
  · rw [decide_eq_false h]
    refine List.any_eq_false.mpr fun y hy => ?_
    show ¬ eqV (nV y) (nV x) = true
    rw [eqV_nat]
    exact fun z => h (of_decide_eq_true z ▸ hy)
/-! ### what is met, each thing once -/
def met : List Nat → List Nat := fun l => l.foldl (fun acc x => if x ∈ acc then acc else acc ++ [x]) []
theorem met_snoc (l : List Nat) (x : Nat) : met (l ++ [x]) = if x ∈ met l then met l else met l ++ [x] := by
  unfold met; rw [List.foldl_append]; rfl
theorem list_snoc {α : Type} {p : List α → Prop} (h0 : p []) (hs : ∀ l x, p l → p (l ++ [x])) : ∀ l, p l := by
  intro l
  have : ∀ n (l : List α), l.length = n → p l := by
    intro n
    induction n with
    | zero => intro l e; rw [List.length_eq_zero_iff.mp e]; exact h0
    | succ n ih =>
      intro l e
      have hne : l ≠ [] := fun z => by rw [z] at e; cases e
      rw [← List.dropLast_concat_getLast hne]
      exact hs _ _ (ih _ (by rw [List.length_dropLast, e]; rfl))
  exact this _ l rfl
theorem met_mem (l : List Nat) : ∀ x, x ∈ met l ↔ x ∈ l := by
  refine list_snoc (p := fun l => ∀ x, x ∈ met l ↔ x ∈ l) (fun x => Iff.rfl) (fun l y ih x => ?_) l
  rw [met_snoc, List.mem_append, List.mem_singleton]
  by_cases h : y ∈ met l
  · rw [if_pos h, ih]
    exact ⟨.inl, fun z => z.elim id fun e => e ▸ (ih y).mp h⟩
  · rw [if_neg h, List.mem_append, ih, List.mem_singleton]
theorem met_nodup (l : List Nat) : (met l).Nodup := by
  refine list_snoc (p := fun l => (met l).Nodup) List.nodup_nil (fun l y ih => ?_) l
  rw [met_snoc]
  by_cases h : y ∈ met l
  · rw [if_pos h]; exact ih
  · rw [if_neg h, List.nodup_append]
    exact ⟨ih, by simp, fun a ha b hb e => h (by rw [List.mem_singleton.mp hb] at e; exact e ▸ ha)⟩
theorem met_len (l : List Nat) : (met l).length ≤ l.length := by
  refine list_snoc (p := fun l => (met l).length ≤ l.length) (Nat.le_refl _) (fun l y ih => ?_) l
  rw [met_snoc, List.length_append]
  split
  · exact Nat.le_trans ih (Nat.le_add_right _ _)
  · rw [List.length_append]; exact Nat.add_le_add_right ih _
theorem perm_nodup {α : Type} [DecidableEq α] : ∀ {xs ys : List α}, xs.Nodup → ys.Nodup → (∀ x, x ∈ xs ↔ x ∈ ys) → xs.Perm ys
  | [], ys, _, _, h => by
    cases ys with
    | nil => exact .nil
    | cons y ys => exact absurd ((h y).mpr List.mem_cons_self) (by simp)
  | x :: xs, ys, hx, hy, h => by
    have ⟨nx, hx⟩ := List.nodup_cons.mp hx
    have mx := (h x).mp List.mem_cons_self
    refine (List.Perm.cons x (perm_nodup (ys := ys.erase x) hx (hy.erase x) fun z => ?_)).trans (List.perm_cons_erase mx).symm
    rw [hy.mem_erase_iff]
    constructor
    · intro hz
      exact ⟨fun e => nx (e ▸ hz), (h z).mp (List.mem_cons_of_mem _ hz)⟩
    · rintro ⟨ne, hz⟩
      exact (List.mem_cons.mp ((h z).mpr hz)).resolve_left ne
theorem sum_cast : ∀ xs : List Nat, (xs.map (fun x : Nat => (x : Int))).sum = ((xs.sum : Nat) : Int)
  | [] => rfl
  | x :: xs => by rw [List.map_cons, List.sum_cons, List.sum_cons, sum_cast xs]; omega
theorem map_nV (xs : List Nat) : xs.map nV = (xs.map (fun x : Nat => (x : Int))).map V.int := by
  rw [List.map_map]; rfl
theorem sum_perm {xs ys : List Nat} (h : xs.Perm ys) : xs.sum = ys.sum := by
  induction h with
  | nil => rfl
  | cons x _ ih => rw [List.sum_cons, List.sum_cons, ih]
  | swap x y l => simp only [List.sum_cons]; omega
  | trans _ _ a b => exact a.trans b
theorem nat_cmp (f : Int → Int → Bool) (x y : Nat) : V.bl (f (x : Int) (y : Int)) = V.bl (f (x : Int) (y : Int)) := rfl
theorem int_nats : ∀ {ns : List Int}, (∀ x ∈ ns, ∃ k : Nat, x = (k : Int)) → ∃ ms : List Nat, ns = ms.map fun x : Nat => (x : Int)
  | [], _ => ⟨[], rfl⟩
  | x :: ns, h => by
    obtain ⟨k, rfl⟩ := h x List.mem_cons_self
    obtain ⟨ms, rfl⟩ := int_nats (ns := ns) fun y hy => h y (List.mem_cons_of_mem _ hy)
    exact ⟨k :: ms, rfl⟩
theorem nodup_of_lt {ms : List Nat} (h : (ms.map fun x : Nat => (x : Int)).Pairwise (· < ·)) : ms.Nodup := by
  rw [List.pairwise_map] at h
  exact h.imp fun {a b} z e => by subst e; omega
theorem map_Vint (ms : List Nat) : (ms.map fun x : Nat => (x : Int)).map V.int = ms.map nV := by rw [List.map_map]; rfl
theorem Same.mn {α : Type} {R : Hp → V → α → Prop} (m : Mn R) {H H' : Hp} {v : V} {x : α} (h : R H v x) (k : Same H H') : R H' v x := m.to h (TK.same k)
end Vf

set_option Elab.async false
set_option linter.all false
set_option maxRecDepth 100000
set_option maxHeartbeats 4000000
namespace Vf
open PySem PySem.Spec PyProof.Rows L2 TL
/-- the scope of a comprehension within one whose def has the scope d -/
def rel2 (inner d : Scope) : Scope := { inner with
  names := inner.names.map fun nk =>
    match nk with
    | (y, kk) => if (kk == .free && d.kind == .function && d.names.lookup y == some .cell) then (y, .cell) else (y, kk) }
def rTupleOf (K : PySem.W.Frag) : List V → Hp → VK → Prop := fun args H Q =>
  ∃ p ys, args = [V.ref p] ∧ ((SqL K H p ys ∧ ∀ l : Addr, H l = none → Q (.ref l) (upd H l (.tup ys))) ∨
    (SqT K H p ys ∧ Q (.ref p) H))
def rListOf (K : PySem.W.Frag) : List V → Hp → VK → Prop := fun args H Q =>
  ∃ p ys, args = [V.ref p] ∧ (SqL K H p ys ∨ SqT K H p ys) ∧
    ∀ l : Addr, H l = none → Q (.ref l) (upd H l (.lst ys))
def tTru (K : PySem.W.Frag) (ta : TE) : TT := fun σ H Q => ta σ H fun x H' => ∃ k, TruV K x H' k ∧ Q k H'
theorem pt_tru {X : Cx} {K : PySem.W.Frag} {a : Expr} {ta : TE} (hK : X.K = K) (ha : PE X a ta) (he : ∀ whole, isTrue a X.env whole = (do let v ← whole; standAt a.pos; holding [v] (truthy v))) : PT X a (tTru K ta) := by
  subst hK
  exact pt_truth ha he
theorem pi_or {X : Cx} {tg iter : Expr} {wa wb : TI} (ha : PI X tg iter wa) (hb : PI X tg iter wb) : PI X tg iter (fun σ H R => wa σ H R ∨ wb σ H R) :=
  ⟨fun pins s σ H R I h => h.elim (ha.run pins s σ H R I) (hb.run pins s σ H R I)⟩
theorem hu65 {k : Nat} {A : Around} (r : Room k A) : A.units + 65 < cLine := by have := r.un; omega
/-! ### tuples of numbers as data -/
def dN (xs : List Nat) : PyData := .tuple (xs.map fun x : Nat => .int (x : Int))
theorem dp_nats {K : PySem.W.Frag} {H : Hp} : ∀ xs : List Nat, DpAll K H (xs.map nV) (xs.map fun x : Nat => .int (x : Int))
  | [] => .nil
  | x :: xs => .cons (.int (x : Int)) (dp_nats xs)
theorem dN_dp {K : PySem.W.Frag} {H : Hp} {v : V} {xs : List Nat} (h : NsR H v xs) : Dp K H v (dN xs) := by
  obtain ⟨a, rfl, e⟩ := h
  exact .tup (SqT.of e) (dp_nats xs)
theorem dNs_dp {K : PySem.W.Frag} {H : Hp} : ∀ {us : List V} {F : List (List Nat)}, LV (NsR H) us F → DpAll K H us (F.map dN)
  | [], [], _ => .nil
  | [], _ :: _, h => by have := h.1; cases this
  | _ :: _, [], h => by have := h.1; cases this
  | u :: us, f :: F, h => by
    obtain ⟨x, e, r⟩ := h.2 0 f rfl
    have e := Option.some.inj e
    subst e
    exact .cons (dN_dp r) (dNs_dp ⟨Nat.succ.inj h.1, fun i r e => h.2 (i + 1) r e⟩)
theorem nats_lay : ∀ xs : List Nat, PyData.canLayAll0 (xs.map fun x : Nat => .int (x : Int)) = true
  | [] => by simp [PyData.canLayAll0]
  | x :: xs => by simp [PyData.canLayAll0, PyData.canLay0, nats_lay xs]
theorem nats_depth : ∀ xs : List Nat, PyData.depthAll (xs.map fun x : Nat => .int (x : Int)) = 0
  | [] => by simp [PyData.depthAll]
  | x :: xs => by simp [PyData.depthAll, PyData.depth, nats_depth xs]
theorem dN_lay (xs : List Nat) : (dN xs).canLay0 = true := by
  unfold dN; simp only [PyData.canLay0]; exact nats_lay xs
theorem dN_depth (xs : List Nat) : (dN xs).depth = 1 := by
  unfold dN; simp only [PyData.depth, nats_depth]
theorem dNs_lay : ∀ F : List (List Nat), PyData.canLayAll0 (F.map dN) = true
  | [] => by simp [PyData.canLayAll0]
  | x :: xs => by simp [PyData.canLayAll0, dN_lay x, dNs_lay xs]
theorem dNs_depth : ∀ F : List (List Nat), PyData.depthAll (F.map dN) ≤ 1
  | [] => by simp [PyData.depthAll]
  | x :: xs => by
    have h1 := dNs_depth xs
    have h2 := dN_depth x
    simp only [List.map_cons, PyData.depthAll]
    omega
theorem dN_shaped (xs : List Nat) : SeqAt.shaped (dN xs) = true := Bool.and_eq_true_iff.mpr ⟨dN_lay xs, decide_eq_true (by rw [dN_depth]; decide)⟩
theorem dNs_shaped (F : List (List Nat)) : SeqAt.shaped (.list (F.map dN)) = true :=
  Bool.and_eq_true_iff.mpr ⟨by simp only [PyData.canLay0]; exact dNs_lay F, decide_eq_true (by simp only [PyData.depth]; have := dNs_depth F; omega)⟩
theorem nats_eqv : ∀ xs ys : List Nat, PyData.eqvAll (xs.map fun x : Nat => .int (x : Int)) (ys.map fun x : Nat => .int (x : Int)) = decide (xs = ys)
  | [], [] => by simp [PyData.eqvAll]
  | [], _ :: _ => by simp [PyData.eqvAll]
  | _ :: _, [] => by simp [PyData.eqvAll]
  | x :: xs, y :: ys => by
    simp only [List.map_cons, PyData.eqvAll, PyData.eqv, nats_eqv xs ys]
    by_cases h1 : x = y
    · subst h1
      by_cases h2 : xs = ys
      · subst h2; simp
      · simp [h2]
    · have : ¬ (x : Int) = (y : Int) := by omega
      simp [h1, this]
theorem dN_eqv (xs ys : List Nat) : PyData.eqv (dN xs) (dN ys) = decide (xs = ys) := by
  unfold dN; simp only [PyData.eqv]; exact nats_eqv xs ys
theorem dNs_any (F : List (List Nat)) (f : List Nat) : ((F.map dN).any fun z => PyData.eqv z (dN f)) = decide (f ∈ F) := by
  rw [List.any_map]
  by_cases h : f ∈ F
  · rw [decide_eq_true h]
    exact List.any_eq_true.mpr ⟨f, h, by show PyData.eqv (dN f) (dN f) = true; rw [dN_eqv]; exact decide_eq_true rfl⟩
  · rw [decide_eq_false h]
    refine List.any_eq_false.mpr fun y hy => ?_
    show ¬ PyData.eqv (dN y) (dN f) = true
    rw [dN_eqv]
    exact fun z => h (of_decide_eq_true z ▸ hy)
/-- sorted of a list of tuples of equally many small ints -/
def rSortX (K : PySem.W.Frag) : List V → Hp → VK → Prop := fun vs H Q => ∃ (d : Nat) (B : Int), 1 ≤ d ∧ rSortU K d B vs H Q
theorem cr_sortX {X : Cx} : CallR X (.builtin "sorted") (rSortX X.K) := by
  intro pins s σ H vs us Q I r h
  obtain ⟨d, B, hd, h⟩ := h
  exact cr_sortT hd pins s σ H vs us Q I r h
theorem LV.perm {α : Type} {R : V → α → Prop} {us ws : List V} (hp : us.Perm ws) : ∀ {rs : List α}, LV R ws rs → ∃ ss, LV R us ss ∧ ss.Perm rs := by
  induction hp with
  | nil =>
    intro rs h
    have : rs = [] := List.length_eq_zero_iff.mp h.1.symm
    subst this
    exact ⟨[], LV.nil, .nil⟩
  | @cons x l₁ l₂ _ ih =>
    intro rs h
    cases rs with
    | nil => have := h.1; cases this
    | cons r rs =>
      obtain ⟨y, e, hr⟩ := h.2 0 r rfl
      have e := Option.some.inj e
      subst e
      obtain ⟨ss, h1, h2⟩ := ih (rs := rs) ⟨Nat.succ.inj h.1, fun i r e => h.2 (i + 1) r e⟩
      refine ⟨r :: ss, ⟨by rw [List.length_cons, List.length_cons, h1.1], fun i q e => ?_⟩, h2.cons r⟩
      cases i with
      | zero => exact ⟨_, rfl, (Option.some.inj e) ▸ hr⟩
      | succ i => exact h1.2 i q e
  | swap x y l =>
    intro rs h
    match rs, h with
    | [], h => have := h.1; cases this
    | [_], h => have := h.1; cases this
    | r :: s :: rs, h =>
      obtain ⟨y1, e, hr⟩ := h.2 0 r rfl
      have e := Option.some.inj e
      subst e
      obtain ⟨y2, e, hs⟩ := h.2 1 s rfl
      have e := Option.some.inj e
      subst e
      refine ⟨s :: r :: rs, ⟨h.1, fun i q e => ?_⟩, .swap _ _ _⟩
      match i, e with
      | 0, e => exact ⟨_, rfl, (Option.some.inj e) ▸ hs⟩
      | 1, e => exact ⟨_, rfl, (Option.some.inj e) ▸ hr⟩
      | i + 2, e => exact h.2 (i + 2) q e
  | trans _ _ a b =>
    intro rs h
    obtain ⟨ss, h1, p1⟩ := b h
    obtain ⟨ts, h2, p2⟩ := a h1
    exact ⟨ts, h2, p2.trans p1⟩
theorem fdiv_nV (a b : Nat) : V.int ((a : Int).fdiv (b : Int)) = nV (a / b) := by
  rw [Int.fdiv_eq_ediv_of_nonneg _ (by omega)]; rfl
theorem fmod_nV (a b : Nat) : V.int ((a : Int).fmod (b : Int)) = nV (a % b) := by
  rw [Int.fmod_eq_emod_of_nonneg _ (by omega)]; rfl
theorem low_snoc {os S : List Nat} {j g : Nat} (lo : os.length = j) (ho : ∀ s, s < j → os.getD s 0 < S.getD s 0) (hg : g < S.getD j 0) : ∀ s, s < j + 1 → (os ++ [g]).getD s 0 < S.getD s 0 := fun s hs => by
  rcases Nat.lt_or_ge s j with h | h
  · rw [List.getD_eq_getElem?_getD, List.getElem?_append_left (by omega), ← List.getD_eq_getElem?_getD]; exact ho s h
  · have : s = j := by omega
    subst this
    rw [List.getD_eq_getElem?_getD, List.getElem?_append_right (by omega), lo, Nat.sub_self]; exact hg
theorem PE.to {X : Cx} {e : Expr} {t t' : TE} (h : PE X e t) (i : ∀ σ H Q, t' σ H Q → t σ H Q) : PE X e t' := ⟨fun pins s σ H Q I hq => h.run pins s σ H Q I (i σ H Q hq)⟩
theorem rgV_nats (n : Nat) : rgV 0 (n : Int) = (List.range n).map nV := by
  unfold rgV
  rw [show ((n : Int) - 0).toNat = n by omega]
  refine List.map_congr_left fun i _ => ?_
  rw [Int.zero_add]; rfl
theorem toNat_k {n : Nat} : ((n : Nat) : Int).toNat = n := Int.toNat_natCast n
theorem int0 (i : Nat) : V.int (0 + (i : Int)) = nV i := by rw [Int.zero_add]; rfl
theorem ixN_last {n : Nat} (h : 0 < n) : ixN n (-1) = some (n - 1) := by
  unfold ixN
  rw [if_neg (by decide), if_pos (by omega)]
  congr 1
  omega
theorem atI_l {α : Type} {xs : List α} {v : α} (h : xs[xs.length - 1]? = some v) : atI xs (-1) = some v := by
  have h0 : 0 < xs.length := by
    have := (List.getElem?_eq_some_iff.mp h).1
    omega
  unfold atI
  rw [ixN_last h0]
  exact h
def isN (lo hi : Nat) : V → Bool
  | .int g => decide ((lo : Int) ≤ g) && decide (g ≤ (hi : Int))
  | _ => false
theorem isN_of {lo hi : Nat} {v : V} (h : isN lo hi v = true) : ∃ m : Nat, v = nV m ∧ lo ≤ m ∧ m ≤ hi := by
  cases v with
  | int g =>
    have ⟨a, b⟩ := Bool.and_eq_true_iff.mp h
    have a := of_decide_eq_true a
    have b := of_decide_eq_true b
    exact ⟨g.toNat, by unfold nV; rw [Int.toNat_of_nonneg (by omega)], by omega, by omega⟩
  | _ => cases h
theorem none_kp {d : Addr} {H H' : Hp} {b : Addr} (k : Kp d H H') (n : b ≠ d) (h : H' b = none) : H b = none := by
  cases e : H b with
  | none => rfl
  | some o => rw [k _ _ n e] at h; cases h
theorem none_same {H H' : Hp} {b : Addr} (k : Same H H') (h : H' b = none) : H b = none := by
  cases e : H b with
  | none => rfl
  | some o => rw [k _ _ e] at h; cases h
theorem draw_nt {m r : Int} (h : 0 < m) (e1 : m < 2 → r = 0) (e2 : 2 ≤ m → 0 ≤ r ∧ r < m) : ∃ j : Nat, r = (j : Int) ∧ (j : Int) < m := by
  by_cases c : m < 2
  · exact ⟨0, e1 c, by omega⟩
  · have := e2 (by omega)
    exact ⟨r.toNat, by omega, by omega⟩
end Vf

set_option Elab.async false
set_option linter.all false
set_option maxRecDepth 100000
set_option maxHeartbeats 4000000
namespace Vf
open PySem PySem.Spec PyProof.Rows L2
/-! ### t[::-1] of a tuple -/
theorem adjust_rev (n : Nat) : Builtin.Slice.sliceAdjust none none (-1) (n : Int) = ((n : Int) - 1, -1) := by
  unfold Builtin.Slice.sliceAdjust
  simp
theorem places_rev (n : Nat) : Builtin.Slice.slicePlaces ((n : Int) - 1) (-1) (-1) = n := by
  unfold Builtin.Slice.slicePlaces
  have h1 : ¬ ((-1 : Int) > 0) := by decide
  simp only [h1, if_false]
  by_cases h : (n : Int) - 1 > -1
  · rw [if_pos h]
    have e : ((n : Int) - 1 - -1 - 1) / (- -1) + 1 = (n : Int) := by
      rw [show (- -1 : Int) = 1 by decide, Int.ediv_one]; omega
    rw [e]; exact Int.toNat_natCast n
  · rw [if_neg h]
    show 0 = n
    omega
theorem fmap_congr {α β : Type} {f g : α → Option β} : ∀ {l : List α}, (∀ x ∈ l, f x = g x) → l.filterMap f = l.filterMap g
  | [], _ => rfl
  | x :: l, h => by
    have e := h x List.mem_cons_self
    have ih := fmap_congr (l := l) fun y hy => h y (List.mem_cons_of_mem _ hy)
    simp only [List.filterMap_cons, e, ih]
theorem pick_rev (xs : Array Value) : ((List.range xs.size).filterMap fun (m : Nat) => xs[(((xs.size : Int) - 1) + (m : Int) * (-1)).toNat]?).toArray = xs.toList.reverse.toArray := by
  have h := PySem.W.krv_pick xs
  unfold slicePick at h
  rw [PySem.W.krv_bounds] at h
  have h : ((sliceRange ((xs.size : Int) - 1) (-1) (-1)).filterMap (xs[·]?)).toArray = xs.toList.reverse.toArray := h
  rw [PySem.W.krv_sliceRange, List.filterMap_map] at h
  rw [← h]
  refine congrArg List.toArray (fmap_congr fun m hm => ?_)
  have hm := List.mem_range.mp hm
  show xs[(((xs.size : Int) - 1) + (m : Int) * (-1)).toNat]? = xs[xs.size - 1 - m]?
  have : (((xs.size : Int) - 1) + (m : Int) * (-1)).toNat = xs.size - 1 - m := by omega
  rw [this]
section
variable {prog : Program} {w : World} {A : Around} {E : Value → Shared → Prop} {s : Shared}
theorem sliceApplied_rev {sl : Addr} {vs : Value} {n : Nat} {Q : Int × Int × Nat → Shared → Prop} (hs : s.heap.IsSliceOf sl .none .none vs) (ps : IsPart vs (some (-1))) (h : Q ((n : Int) - 1, -1, n) s) :
    wpAny (model prog w) A (Builtin.Slice.sliceApplied (.ref sl) (pure (n : Int))) Q E s := by
  obtain ⟨os, hos, hcs, hds⟩ := id hs
  unfold Builtin.Slice.sliceApplied Builtin.Slice.sliceFields
  refine wpAny_bind (wpAny_bind (wpAny_field hos hds (x := .none) rfl (wpAny_bind (wpAny_field hos hds (x := .none) rfl (wpAny_bind (wpAny_field hos hds (x := vs) rfl (wpAny_pure ?_)))))))
  refine wpAny_bind (HT.slicePart_ ps ?_)
  show wpAny _ _ (if ((-1 : Int) == 0) = true then _ else _) _ _ s
  rw [if_neg (by decide)]
  refine wpAny_bind (slicePart_none (wpAny_bind (slicePart_none (wpAny_bind (wpAny_pure ?_)))))
  show wpAny _ _ (match Builtin.Slice.sliceAdjust none none (-1) (n : Int) with | (lo, hi) => pure (lo, (-1 : Int), Builtin.Slice.slicePlaces lo hi (-1))) _ _ s
  rw [adjust_rev]
  show wpAny _ _ (pure ((n : Int) - 1, (-1 : Int), Builtin.Slice.slicePlaces ((n : Int) - 1) (-1) (-1))) _ _ s
  rw [places_rev]
  exact wpAny_pure h
theorem getItem_tuple_rev {t sl : Addr} {items : Array Value} {vs : Value} {Q : Value → Shared → Prop} (ht : IsTup s.heap t items) (hs : s.heap.IsSliceOf sl .none .none vs) (ps : IsPart vs (some (-1)))
    (h : Q (.ref s.heap.objs.size) { s with heap := s.heap.push { cls := .type "tuple", data := .seq items.toList.reverse.toArray } })
    (hsz : items.size ≤ sizeLine) : wpAny (model prog w) A (getItem (.ref t) (.ref sl)) Q E s := by
  have htake : sizeOk (.seq items.toList.reverse.toArray) := by
    show items.toList.reverse.toArray.size ≤ sizeLine
    rw [List.size_toArray, List.length_reverse, Array.length_toList]
    exact hsz
  obtain ⟨os, hos, hcs, hds⟩ := id hs
  have hTs : s.TypeIs (.ref sl) "slice" := ⟨os, hos, hcs⟩
  unfold getItem
  try with_reducible refine wpAny_holding ?_
  first | refine wpAny_bind (wpAny_pure ?_) | skip
  refine wpAny_bind (wpAny_sequenceKey ht.typeIs (by decide) ?_)
  refine wpAny_bind (wpAny_callSpecial?_slot (name := Str.ofString "__getitem__") ht.typeIs PyProof.Rows.slot_tuple_getitem
    (wpAny_call_entry PyProof.Rows.slot_tuple_getitem ht.typeIs PyProof.Rows.entry_tuple_getitem ?_ (PyProof.Rows.args_tuple_getitem _ _)))
  show wpAny _ _ (Builtin.Tuple.tupleItemsOf (.ref t) >>= _) _ _ s
  refine wpAny_bind (tupleItemsOf_ ht ?_)
  refine wpAny_bind (wpAny_typeOf hTs ?_)
  rw [if_pos (by decide)]
  refine wpAny_bind (sliceApplied_rev hs ps ?_)
  have hno : ¬ ((((items.size : Int) - 1) == 0 && (-1 : Int) == 1 && items.size == items.size) = true) := by
    intro q
    rw [Bool.and_eq_true, Bool.and_eq_true] at q
    exact absurd q.1.2 (by decide)
  show wpAny _ _ (if (((items.size : Int) - 1) == 0 && (-1 : Int) == 1 && items.size == items.size) = true then _ else _) _ _ s
  rw [if_neg hno, pick_rev]
  first
    | exact wpAny_bind (m := Builtin.Tuple.tupleExact _) (wpAny_newObj_type (wpAny_pure ⟨_, rfl, wpAny_pure h⟩) htake)
    | exact wpAny_bind (m := Builtin.Tuple.tupleExact _) (wpAny_newObj_type (wpAny_bind (wpAny_pure (wpAny_pure ⟨_, rfl, wpAny_pure h⟩))) htake)
    | exact wpAny_bind (wpAny_bind (m := Builtin.Tuple.tupleExact _) (wpAny_newObj_type (wpAny_pure (wpAny_pure ⟨_, rfl, wpAny_pure h⟩)) htake))
    | exact wpAny_bind (wpAny_bind (m := Builtin.Tuple.tupleExact _) (wpAny_newObj_type (wpAny_pure ⟨_, rfl, wpAny_pure h⟩) htake))
end
def tRevT (K : PySem.W.Frag) (te : TE) : TE := fun σ H Q => te σ H fun x H1 => ∃ a xs, x = .ref a ∧ SqT K H1 a xs ∧ ∀ p, H1 p = none → Q (.ref p) (upd H1 p (.tup xs.reverse))
theorem pe_revT {X : Cx} {e : Expr} {te : TE} {k : Nat} {p1 p2 p3 pos : Pos} (he : PE X e te) : PE X (.Subscript e (.Slice none none (some (.UnaryOp .USub (.Constant (.int 1) k p1) p2)) p3) pos) (tRevT X.K te) := by
  refine ⟨fun pins s σ H Q I h => ?_⟩
  refine Subscript_ (thn (he.run pins s σ H _ I h) fun v s1 ⟨x, H1, I1, r1, q1⟩ => ?_)
  obtain ⟨a, xs, ex, hx, q⟩ := q1
  subst ex
  cases r1
  have hst : PO X (some (.UnaryOp .USub (.Constant (.int 1) k p1) p2)) (tPart (tUn (rU fun i => .int (-i)) (tC (.int 1)))) := po_some (pe_un un_neg pe_int)
  refine wpAny_Slice (thn (po_none.run pins s1 σ H1 (fun o H2 => o = none ∧ H2 = H1) I1 ⟨rfl, rfl⟩) fun vl s2 ⟨l, H2, I2, pl, el, e2⟩ => ?_)
  subst el e2
  refine thn (po_none.run pins s2 σ H2 (fun o H3 => o = none ∧ H3 = H2) I2 ⟨rfl, rfl⟩) fun vu s3 ⟨u, H3, I3, pu, eu, e3⟩ => ?_
  subst eu e3
  refine thn (hst.run pins s3 σ H3 (fun o H4 => o = some (-1) ∧ H4 = H3) I3 ⟨1, rfl, -1, rfl, rfl, rfl⟩) fun vs s4 ⟨o, H4, I4, ps, eo, e4⟩ => ?_
  subst eo e4
  cases pl
  cases pu
  have I5 : Inv X pins σ H4 { s4 with heap := s4.heap.push { cls := .type "slice", data := .fields #[.none, .none, vs] } } := I4.kept (t' := s4.toks) fun b ob q => Heap.get?_push_of_some _ q
  obtain ⟨its, r, ht, hz⟩ := I5.tuple hx
  have hlen := r.length
  show wpAny (model X.prog X.w) X.A (subscriptTail e (.Slice none none (some (.UnaryOp .USub (.Constant (.int 1) k p1) p2)) p3) (.ref a) (.ref s4.heap.objs.size)) (EP X pins σ Q) X.xe { s4 with heap := s4.heap.push { cls := .type "slice", data := .fields #[.none, .none, vs] } }
  refine tail_any (ops := [.ref a, .ref s4.heap.objs.size]) ht.typeIs (PyProof.Rows.slot_tuple_getitem.lookup) ?_ (by with_unfolding_all rfl)
  refine getItem_tuple_rev ht (Heap.IsSliceOf.new _ .none .none vs) ps ?_ (by rw [List.size_toArray]; omega)
  refine ⟨.ref _, _, I5.laid (t' := s4.toks) (o := .tup xs.reverse) (fun b ob q => Heap.get?_push_of_some _ q) (Nat.le_refl _) ?_, rfl, q _ (I5.hok.fresh (Nat.le_refl _))⟩
  exact ⟨by rw [List.length_reverse]; exact hz, _, r.reverse, ⟨_, Heap.get?_push_size _ rfl, rfl, 0, rfl⟩⟩
end Vf

set_option Elab.async false
set_option linter.all false
set_option maxRecDepth 100000
set_option maxHeartbeats 4000000
namespace Vf
open PySem PySem.Spec PyProof.Rows L2 TL
/-! ### curtains: the mathematics -/
abbrev Rw := List Nat
abbrev Pg := List Rw
def wholeN (zs : Rw) : Rw := List.replicate zs.length 35
def hasC (zs : Rw) : Bool := decide (35 ∈ zs)
def blankN (zs : Rw) : Bool := decide (zs = List.replicate zs.length 32)
theorem blank_no {zs : Rw} (h : blankN zs = true) : hasC zs = false := by
  have h := of_decide_eq_true h
  refine decide_eq_false fun z => ?_
  rw [h] at z
  have := (List.mem_replicate.mp z).2
  omega
/-! wide -/
def nearB (n : Nat) (zs : Rw) (x : Nat) : Bool := (List.range zs.length).any fun y => decide (zs.getD y 0 = 35) && (decide (x ≤ y + n) && decide (y ≤ x + n))
def wideN (n : Nat) (zs : Rw) : Rw := (List.range zs.length).map fun x => if nearB n zs x = true then 35 else zs.getD x 0
theorem near_cut {n : Nat} {zs : Rw} {x : Nat} : nearB n zs x = true ↔ 35 ∈ (zs.drop (x - n)).take (x + n + 1 - (x - n)) := by
  constructor
  · intro h
    obtain ⟨y, hy, h⟩ := List.any_eq_true.mp h
    have hy := List.mem_range.mp hy
    rw [Bool.and_eq_true, Bool.and_eq_true] at h
    have h1 := of_decide_eq_true h.1
    have h2 := of_decide_eq_true h.2.1
    have h3 := of_decide_eq_true h.2.2
    refine List.mem_iff_getElem?.mpr ⟨y - (x - n), ?_⟩
    rw [List.getElem?_take, if_pos (by omega), List.getElem?_drop, show x - n + (y - (x - n)) = y by omega, List.getElem?_eq_getElem hy]
    rw [List.getD_eq_getElem?_getD, List.getElem?_eq_getElem hy] at h1
    exact congrArg some h1
  · intro h
    obtain ⟨i, h⟩ := List.mem_iff_getElem?.mp h
    rw [List.getElem?_take] at h
    split at h
    · next c =>
      rw [List.getElem?_drop] at h
      have hl := (List.getElem?_eq_some_iff.mp h).1
      refine List.any_eq_true.mpr ⟨x - n + i, List.mem_range.mpr hl, ?_⟩
      rw [List.getD_eq_getElem?_getD, h]
      rw [Bool.and_eq_true, Bool.and_eq_true]
      exact ⟨decide_eq_true rfl, decide_eq_true (by omega), decide_eq_true (by omega)⟩
    · cases h
/-! even -/
def evB (n r c : Nat) : Bool := decide (c = 35) || (decide (0 < r) && decide (r < n))
def evStep (n r c : Nat) : Nat := if evB n r c = true then (if r < n then r + 1 else 1) else 0
def evS (n : Nat) (zs : Rw) (x : Nat) : Nat := (zs.take x).foldl (evStep n) 0
theorem evS_succ {n : Nat} {zs : Rw} {x : Nat} (h : x < zs.length) : evS n zs (x + 1) = evStep n (evS n zs x) (zs.getD x 0) := by
  unfold evS
  rw [take_oneD 0 h, List.foldl_append]; rfl
def evenN (n : Nat) (zs : Rw) : Rw := (List.range zs.length).map fun x => if evB n (evS n zs x) (zs.getD x 0) = true then 35 else zs.getD x 0
theorem ev_le {n : Nat} (h : 1 ≤ n) (r c : Nat) : evStep n r c ≤ n := by
  unfold evStep
  split
  · split <;> omega
  · omega
def covG (G : List (Nat × Nat)) (y : Nat) : Bool := G.any fun g => decide (g.1 ≤ y) && decide (y < g.2)
theorem cov_snoc (G : List (Nat × Nat)) (f b y : Nat) : covG (G ++ [(f, b)]) y = (covG G y || (decide (f ≤ y) && decide (y < b))) := by
  unfold covG
  rw [List.any_append]
  simp
/-- the state behind x signs -/
structure GSt (n : Nat) (zs : Rw) (x : Nat) (G : List (Nat × Nat)) : Prop where
  cov : ∀ y, y < x → covG G y = evB n (evS n zs y) (zs.getD y 0)
  lt : ∀ g ∈ G, g.1 < g.2 ∧ g.2 ≤ zs.length
  len : G.length ≤ x
  last : (evS n zs x = 0 ∧ ∀ g ∈ G, g.2 < x) ∨ (∃ G0 f b, G = G0 ++ [(f, b)] ∧ (∀ g ∈ G0, g.2 < f) ∧ f < x ∧ 1 ≤ evS n zs x ∧ evS n zs x ≤ n ∧ (∃ k, x = f + k * n + evS n zs x) ∧ b = min zs.length (x + (n - evS n zs x)))
theorem GSt.zero (n : Nat) (zs : Rw) : GSt n zs 0 [] := ⟨fun y h => absurd h (Nat.not_lt_zero y), (fun _ h => nomatch h), Nat.le_refl _, .inl ⟨rfl, (fun _ h => nomatch h)⟩⟩
/-- a sign that is no cover: nothing happens to the intervals -/
theorem GSt.none {n : Nat} {zs : Rw} {x : Nat} {G : List (Nat × Nat)} (h : GSt n zs x G) (n1 : 1 ≤ n) (hx : x < zs.length) (c : zs.getD x 0 ≠ 35) : GSt n zs (x + 1) G := by
  have es := evS_succ (n := n) hx
  rcases h.last with ⟨h0, hb⟩ | ⟨G0, f, b, rfl, h0, fx, r1, rn, ⟨k, hk⟩, hb⟩
  · have e : evB n (evS n zs x) (zs.getD x 0) = false := by
      unfold evB; rw [h0, decide_eq_false c]; rfl
    have e2 : evS n zs (x + 1) = 0 := by rw [es]; unfold evStep; rw [if_neg (by rw [e]; decide)]
    refine ⟨fun y hy => ?_, h.lt, Nat.le_succ_of_le h.len, .inl ⟨e2, fun g hg => Nat.lt_succ_of_lt (hb g hg)⟩⟩
    by_cases z : y = x
    · subst z
      rw [e]
      refine List.any_eq_false.mpr fun g hg => ?_
      have := hb g hg
      rw [decide_eq_false (show ¬ y < g.2 by omega), Bool.and_false]; decide
    · exact h.cov y (by omega)
  · by_cases c2 : evS n zs x < n
    · have e : evB n (evS n zs x) (zs.getD x 0) = true := by
        unfold evB; rw [decide_eq_true c2, decide_eq_true (show 0 < evS n zs x by omega), Bool.and_self, Bool.or_true]
      have e2 : evS n zs (x + 1) = evS n zs x + 1 := by rw [es]; unfold evStep; rw [if_pos e, if_pos c2]
      refine ⟨fun y hy => ?_, h.lt, Nat.le_succ_of_le h.len, .inr ⟨G0, f, b, rfl, h0, by omega, by omega, by omega, ⟨k, by omega⟩, by omega⟩⟩
      by_cases z : y = x
      · subst z
        rw [e, cov_snoc, decide_eq_true (show f ≤ y by omega), decide_eq_true (show y < b by omega)]
        simp
      · exact h.cov y (by omega)
    · have e : evB n (evS n zs x) (zs.getD x 0) = false := by
        unfold evB; rw [decide_eq_false c, decide_eq_false c2]; simp
      have e2 : evS n zs (x + 1) = 0 := by rw [es]; unfold evStep; rw [if_neg (by rw [e]; decide)]
      refine ⟨fun y hy => ?_, h.lt, Nat.le_succ_of_le h.len, .inl ⟨e2, fun g hg => ?_⟩⟩
      · by_cases z : y = x
        · subst z
          rw [e]
          refine List.any_eq_false.mpr fun g hg => ?_
          have : g.2 ≤ y := by
            rcases List.mem_append.mp hg with q | q
            · have := h0 g q; omega
            · rw [List.mem_singleton.mp q]; show b ≤ y; omega
          rw [decide_eq_false (show ¬ y < g.2 by omega), Bool.and_false]; decide
        · exact h.cov y (by omega)
      · rcases List.mem_append.mp hg with q | q
        · have := h0 g q; omega
        · rw [List.mem_singleton.mp q]; show b < x + 1; omega
/-- how far a run goes -/
def upTo (n len f b : Nat) : Nat := min len (b + (n - (b - f) % n) % n)
theorem up_new {n len x : Nat} (n1 : 1 ≤ n) : upTo n len x (x + 1) = min len (x + 1 + (n - 1)) := by
  unfold upTo
  rw [show x + 1 - x = 1 by omega]
  by_cases h : n = 1
  · subst h; rfl
  · rw [Nat.mod_eq_of_lt (show 1 < n by omega), Nat.mod_eq_of_lt (show n - 1 < n by omega)]
theorem mod_add_mul {n k r : Nat} : (k * n + r) % n = r % n := by rw [Nat.add_comm, Nat.add_mul_mod_self_right]
/-- a cover far behind the last run, or the first one -/
theorem GSt.new {n : Nat} {zs : Rw} {x : Nat} {G : List (Nat × Nat)} (h : GSt n zs x G) (n1 : 1 ≤ n) (hx : x < zs.length) (c : zs.getD x 0 = 35) (hb : ∀ g ∈ G, g.2 < x) : GSt n zs (x + 1) (G ++ [(x, upTo n zs.length x (x + 1))]) := by
  have es := evS_succ (n := n) hx
  have r0 : evS n zs x = 0 := by
    rcases h.last with ⟨h0, _⟩ | ⟨G0, f, b, rfl, _, _, r1, rn, _, hbb⟩
    · exact h0
    · have := hb (f, b) (List.mem_append_right _ (List.mem_singleton.mpr rfl))
      have this : b < x := this
      omega
  have e : evB n (evS n zs x) (zs.getD x 0) = true := by unfold evB; rw [decide_eq_true c, Bool.true_or]
  have e2 : evS n zs (x + 1) = 1 := by rw [es, r0]; unfold evStep; rw [r0] at e; rw [if_pos e, if_pos (by omega)]
  rw [up_new n1]
  refine ⟨fun y hy => ?_, fun g hg => ?_, by rw [List.length_append]; exact Nat.succ_le_succ h.len, .inr ⟨G, x, _, rfl, hb, Nat.lt_succ_self x, by omega, by omega, ⟨0, by omega⟩, by rw [e2]⟩⟩
  · rw [cov_snoc]
    by_cases z : y = x
    · subst z
      rw [e, decide_eq_true (Nat.le_refl y), decide_eq_true (show y < min zs.length (y + 1 + (n - 1)) by omega)]
      simp
    · rw [h.cov y (by omega), decide_eq_false (show ¬ x ≤ y by omega)]
      simp
  · rcases List.mem_append.mp hg with q | q
    · exact h.lt g q
    · rw [List.mem_singleton.mp q]
      exact ⟨by show x < min _ _; omega, Nat.min_le_left _ _⟩
/-- a cover within the last run, or close behind it -/
theorem GSt.grow {n : Nat} {zs : Rw} {x : Nat} {G0 : List (Nat × Nat)} {f b : Nat} (h : GSt n zs x (G0 ++ [(f, b)])) (n1 : 1 ≤ n) (hx : x < zs.length) (c : zs.getD x 0 = 35) (hb : x ≤ b) : GSt n zs (x + 1) (G0 ++ [(f, upTo n zs.length f (max (x + 1) b))]) := by
  have es := evS_succ (n := n) hx
  rcases h.last with ⟨_, h1⟩ | ⟨G1, f1, b1, eG, h0, fx, r1, rn, ⟨k, hk⟩, hbb⟩
  · have := h1 (f, b) (List.mem_append_right _ (List.mem_singleton.mpr rfl))
    have this : b < x := this
    omega
  obtain ⟨rfl, e0⟩ := List.append_inj' eG rfl
  have e0 := List.singleton_inj.mp e0
  obtain ⟨rfl, rfl⟩ := Prod.mk.inj e0
  have e : evB n (evS n zs x) (zs.getD x 0) = true := by unfold evB; rw [decide_eq_true c, Bool.true_or]
  have hold : ∀ b2, b ≤ b2 → b2 ≤ zs.length → x < b2 → (∀ y, y < x + 1 → covG (G0 ++ [(f, b2)]) y = evB n (evS n zs y) (zs.getD y 0)) ∧ (∀ g ∈ G0 ++ [(f, b2)], g.1 < g.2 ∧ g.2 ≤ zs.length) ∧ (G0 ++ [(f, b2)]).length ≤ x + 1 := fun b2 q1 q2 q3 => by
    refine ⟨fun y hy => ?_, fun g hg => ?_, ?_⟩
    · by_cases z : y = x
      · subst z
        rw [e, cov_snoc, decide_eq_true (show f ≤ y by omega), decide_eq_true q3]
        simp
      · have := h.cov y (by omega)
        rw [cov_snoc] at this
        rw [cov_snoc, decide_eq_true (show y < b2 by omega), ← this, decide_eq_true (show y < b by omega)]
    · rcases List.mem_append.mp hg with q | q
      · exact h.lt g (List.mem_append_left _ q)
      · rw [List.mem_singleton.mp q]
        exact ⟨by show f < b2; omega, q2⟩
    · have := h.len
      rw [List.length_append] at this ⊢
      exact Nat.le_succ_of_le this
  by_cases c2 : evS n zs x < n
  · have e2 : evS n zs (x + 1) = evS n zs x + 1 := by rw [es]; unfold evStep; rw [if_pos e, if_pos c2]
    have e3 : upTo n zs.length f (max (x + 1) b) = b := by
      rw [show max (x + 1) b = b by omega]
      unfold upTo
      by_cases cap : x + (n - evS n zs x) ≤ zs.length
      · have hb2 : b = x + (n - evS n zs x) := by omega
        have : (b - f) % n = 0 := by
          rw [show b - f = (k + 1) * n + 0 by rw [Nat.add_mul]; omega, mod_add_mul]; rfl
        rw [this, Nat.sub_zero, Nat.mod_self]; omega
      · omega
    rw [e3]
    obtain ⟨q1, q2, q3⟩ := hold b (Nat.le_refl _) (by omega) (by omega)
    exact ⟨q1, q2, q3, .inr ⟨G0, f, b, rfl, h0, by omega, by omega, by omega, ⟨k, by omega⟩, by omega⟩⟩
  · have rn2 : evS n zs x = n := by omega
    have e2 : evS n zs (x + 1) = 1 := by rw [es]; unfold evStep; rw [if_pos e, if_neg c2]
    have bx : b = x := by omega
    have e3 : upTo n zs.length f (max (x + 1) b) = min zs.length (x + 1 + (n - 1)) := by
      rw [show max (x + 1) b = x + 1 by omega]
      unfold upTo
      by_cases h1 : n = 1
      · subst h1
        rw [Nat.mod_one]
      · have : (x + 1 - f) % n = 1 := by
          rw [show x + 1 - f = (k + 1) * n + 1 by rw [Nat.add_mul]; omega, mod_add_mul, Nat.mod_eq_of_lt (by omega)]
        rw [this, Nat.mod_eq_of_lt (show n - 1 < n by omega)]
    rw [e3]
    obtain ⟨q1, q2, q3⟩ := hold (min zs.length (x + 1 + (n - 1))) (by omega) (Nat.min_le_left _ _) (by omega)
    exact ⟨q1, q2, q3, .inr ⟨G0, f, _, rfl, h0, by omega, by omega, by omega, ⟨k + 1, by rw [Nat.add_mul]; omega⟩, by rw [e2]⟩⟩
theorem even_cov {n : Nat} {zs : Rw} {G : List (Nat × Nat)} (h : GSt n zs zs.length G) : evenN n zs = (List.range zs.length).map fun y => if covG G y = true then 35 else zs.getD y 0 := by
  unfold evenN
  refine List.map_congr_left fun y hy => ?_
  rw [h.cov y (List.mem_range.mp hy)]
/-! blocks -/
def blockN (rs : Pg) : Pg := if rs.any hasC = true then rs.map wholeN else rs
def blkF (st : Pg × Pg) (r : Rw) : Pg × Pg := if blankN r = true then (st.1 ++ (blockN st.2 ++ [r]), []) else (st.1, st.2 ++ [r])
def blkS (l : Pg) : Pg × Pg := l.foldl blkF ([], [])
def blocksN (l : Pg) : Pg := (blkS l).1 ++ blockN (blkS l).2
theorem blkS_snoc (l : Pg) (r : Rw) : blkS (l ++ [r]) = blkF (blkS l) r := by unfold blkS; rw [List.foldl_append]; rfl
theorem block_len (rs : Pg) : (blockN rs).length = rs.length := by unfold blockN; split <;> simp
def mkB (l : Pg) (k : Nat) : Nat := ((l.take (k + 1)).filter blankN).length
def mkL (l : Pg) : Nat := (l.filter blankN).length
def hitB (l : Pg) (j : Nat) : Bool := (List.range l.length).any fun k => hasC (l.getD k []) && decide (mkB l k = j)
def outB (l : Pg) (k : Nat) : Rw := if (hitB l (mkB l k) && !blankN (l.getD k [])) = true then wholeN (l.getD k []) else l.getD k []
theorem mkB_le (l : Pg) (k : Nat) : mkB l k ≤ mkL l := by
  unfold mkB mkL
  exact (List.Sublist.filter _ (List.take_sublist _ l)).length_le
theorem mkB_old {l : Pg} {r : Rw} {k : Nat} (h : k < l.length) : mkB (l ++ [r]) k = mkB l k := by
  unfold mkB
  rw [List.take_append_of_le_length (by omega)]
theorem getD_old {l : Pg} {r : Rw} {k : Nat} (h : k < l.length) : (l ++ [r]).getD k [] = l.getD k [] := by
  rw [List.getD_eq_getElem?_getD, List.getElem?_append_left h, ← List.getD_eq_getElem?_getD]
theorem getD_new {l : Pg} {r : Rw} : (l ++ [r]).getD l.length [] = r := by
  rw [List.getD_eq_getElem?_getD, List.getElem?_append_right (Nat.le_refl _), Nat.sub_self]; rfl
theorem mkB_new {l : Pg} {r : Rw} : mkB (l ++ [r]) l.length = mkL (l ++ [r]) := by
  unfold mkB mkL
  rw [List.take_of_length_le (by rw [List.length_append]; exact Nat.le_refl _)]
theorem mkL_snoc (l : Pg) (r : Rw) : mkL (l ++ [r]) = mkL l + if blankN r = true then 1 else 0 := by
  unfold mkL
  rw [List.filter_append, List.length_append]
  refine congrArg _ ?_
  by_cases h : blankN r = true
  · rw [if_pos h, List.filter_cons_of_pos h]; rfl
  · rw [if_neg h, List.filter_cons_of_neg h]; rfl
theorem any_congr2 {α : Type} {p q : α → Bool} : ∀ {l : List α}, (∀ x ∈ l, p x = q x) → l.any p = l.any q
  | [], _ => rfl
  | x :: l, h => by
    rw [List.any_cons, List.any_cons, h x List.mem_cons_self, any_congr2 fun y hy => h y (List.mem_cons_of_mem _ hy)]
theorem hitB_snoc (l : Pg) (r : Rw) (j : Nat) : hitB (l ++ [r]) j = (hitB l j || (hasC r && decide (mkL (l ++ [r]) = j))) := by
  unfold hitB
  rw [List.length_append, show l.length + [r].length = l.length + 1 from rfl, List.range_succ, List.any_append]
  have e1 : ((List.range l.length).any fun k => hasC ((l ++ [r]).getD k []) && decide (mkB (l ++ [r]) k = j)) = (List.range l.length).any fun k => hasC (l.getD k []) && decide (mkB l k = j) := any_congr2 fun k hk => by
    have hk := List.mem_range.mp hk
    rw [getD_old hk, mkB_old hk]
  rw [e1]
  simp only [List.any_cons, List.any_nil, Bool.or_false]
  rw [getD_new, mkB_new]
structure BInv (l : Pg) : Prop where
  len : (blkS l).1.length + (blkS l).2.length = l.length
  run : ∀ k, k < (blkS l).2.length → (blkS l).2.getD k [] = l.getD ((blkS l).1.length + k) []
  hi : ∀ k, (blkS l).1.length ≤ k → k < l.length → mkB l k = mkL l ∧ blankN (l.getD k []) = false
  lo : ∀ k, k < (blkS l).1.length → (mkB l k < mkL l ∨ blankN (l.getD k []) = true) ∧ (blkS l).1.getD k [] = outB l k
theorem BInv.hit {l : Pg} (h : BInv l) : hitB l (mkL l) = (blkS l).2.any hasC := by
  have hl := h.len
  cases e : (blkS l).2.any hasC with
  | true =>
    obtain ⟨r, hr, hc⟩ := List.any_eq_true.mp e
    obtain ⟨k, hk, ek⟩ := mem_at hr
    have e2 : (blkS l).2.getD k [] = r := getD_of ek
    have e3 := h.run k hk
    refine List.any_eq_true.mpr ⟨(blkS l).1.length + k, List.mem_range.mpr (by omega), ?_⟩
    rw [← e3, e2, hc, Bool.true_and]
    exact decide_eq_true (h.hi _ (Nat.le_add_right _ _) (by omega)).1
  | false =>
    refine List.any_eq_false.mpr fun k hk => ?_
    have hk := List.mem_range.mp hk
    intro z
    rw [Bool.and_eq_true] at z
    have z2 := of_decide_eq_true z.2
    by_cases c : k < (blkS l).1.length
    · rcases (h.lo k c).1 with q | q
      · omega
      · rw [blank_no q] at z; cases z.1
    · have hk2 : k - (blkS l).1.length < (blkS l).2.length := by omega
      have e3 := h.run _ hk2
      rw [show (blkS l).1.length + (k - (blkS l).1.length) = k by omega] at e3
      have := List.any_eq_false.mp e _ (getD_mem (d := []) hk2)
      rw [e3, z.1] at this
      exact this rfl
theorem BInv.all {l : Pg} (h : BInv l) : (blocksN l).length = l.length ∧ ∀ k, k < l.length → (blocksN l).getD k [] = outB l k := by
  have hl := h.len
  refine ⟨by unfold blocksN; rw [List.length_append, block_len]; exact hl, fun k hk => ?_⟩
  unfold blocksN
  by_cases c : k < (blkS l).1.length
  · rw [List.getD_eq_getElem?_getD, List.getElem?_append_left c, ← List.getD_eq_getElem?_getD]
    exact (h.lo k c).2
  · have c : (blkS l).1.length ≤ k := by omega
    obtain ⟨m1, m2⟩ := h.hi k c hk
    have hk2 : k - (blkS l).1.length < (blkS l).2.length := by omega
    have e3 := h.run _ hk2
    rw [show (blkS l).1.length + (k - (blkS l).1.length) = k by omega] at e3
    rw [List.getD_eq_getElem?_getD, List.getElem?_append_right c, ← List.getD_eq_getElem?_getD]
    unfold outB blockN
    rw [m1, m2, h.hit, Bool.not_false, Bool.and_true]
    split
    · rw [List.getD_eq_getElem?_getD, List.getElem?_map, ← e3, List.getD_eq_getElem?_getD, List.getElem?_eq_getElem hk2]; rfl
    · exact e3
theorem b_inv : ∀ l : Pg, BInv l := by
  refine list_snoc (p := BInv) ⟨rfl, fun k h => absurd h (Nat.not_lt_zero k), fun k _ h => absurd h (Nat.not_lt_zero k), fun k h => absurd h (Nat.not_lt_zero k)⟩ fun l r h => ?_
  have hl := h.len
  obtain ⟨al, ak⟩ := h.all
  have es := blkS_snoc l r
  have em := mkL_snoc l r
  by_cases hb : blankN r = true
  · rw [if_pos hb] at em
    have e1 : blkS (l ++ [r]) = (blocksN l ++ [r], []) := by
      rw [es]
      unfold blkF blocksN
      rw [if_pos hb, List.append_assoc]
    refine ⟨by rw [e1, List.length_append, List.length_append, al]; rfl, fun k hk => ?_, fun k h1 h2 => ?_, fun k hk => ?_⟩
    · rw [e1] at hk; exact absurd hk (Nat.not_lt_zero k)
    · rw [e1, List.length_append, al] at h1
      rw [List.length_append] at h2
      omega
    · rw [e1] at hk ⊢
      have hk : k < (blocksN l ++ [r]).length := hk
      rw [List.length_append, al] at hk
      show _ ∧ (blocksN l ++ [r]).getD k [] = _
      by_cases c : k < l.length
      · have := mkB_le l k
        refine ⟨.inl (by rw [mkB_old c, em]; omega), ?_⟩
        rw [getD_old (by rw [al]; exact c), ak k c]
        unfold outB
        rw [mkB_old c, getD_old c, hitB_snoc, blank_no hb, Bool.false_and, Bool.or_false]
      · have c : k = l.length := by
          have : k < l.length + 1 := hk
          omega
        subst c
        refine ⟨.inr (by rw [getD_new]; exact hb), ?_⟩
        have : (blocksN l ++ [r]).getD l.length [] = r := by rw [← al]; exact getD_new
        rw [this]
        unfold outB
        rw [getD_new, hb, Bool.not_true, Bool.and_false, if_neg Bool.false_ne_true]
  · have hb2 : blankN r = false := by
      cases z : blankN r with
      | true => exact absurd z hb
      | false => rfl
    rw [if_neg hb, Nat.add_zero] at em
    have e1 : blkS (l ++ [r]) = ((blkS l).1, (blkS l).2 ++ [r]) := by
      rw [es]
      unfold blkF
      rw [if_neg hb]
    refine ⟨?_, fun k hk => ?_, fun k h1 h2 => ?_, fun k hk => ?_⟩
    · rw [e1]; show (blkS l).1.length + ((blkS l).2 ++ [r]).length = _; rw [List.length_append, List.length_append, ← hl]; show _ + (_ + 1) = _ + _ + 1; omega
    · rw [e1] at hk ⊢
      have hk : k < ((blkS l).2 ++ [r]).length := hk
      show ((blkS l).2 ++ [r]).getD k [] = (l ++ [r]).getD ((blkS l).1.length + k) []
      rw [List.length_append] at hk
      by_cases c : k < (blkS l).2.length
      · rw [getD_old c, getD_old (by omega)]
        exact h.run k c
      · have c : k = (blkS l).2.length := by
          have : k < (blkS l).2.length + 1 := hk
          omega
        subst c
        rw [getD_new, hl, getD_new]
    · rw [e1] at h1
      have h1 : (blkS l).1.length ≤ k := h1
      by_cases c : k < l.length
      · rw [mkB_old c, getD_old c, em]
        exact h.hi k h1 c
      · have c : k = l.length := by
          rw [List.length_append] at h2
          have : k < l.length + 1 := h2
          omega
        subst c
        exact ⟨mkB_new, by rw [getD_new]; exact hb2⟩
    · rw [e1] at hk ⊢
      have hk : k < (blkS l).1.length := hk
      have c : k < l.length := by omega
      obtain ⟨q1, q2⟩ := h.lo k hk
      refine ⟨by rw [mkB_old c, getD_old c, em]; exact q1, ?_⟩
      show (blkS l).1.getD k [] = _
      rw [q2]
      unfold outB
      rw [mkB_old c, getD_old c, hitB_snoc]
      rcases q1 with q | q
      · rw [decide_eq_false (show ¬ mkL (l ++ [r]) = mkB l k by omega), Bool.and_false, Bool.or_false]
      · rw [q, Bool.not_true, Bool.and_false, Bool.and_false]
theorem blocks_out (l : Pg) : blocksN l = (List.range l.length).map (outB l) := by
  obtain ⟨h1, h2⟩ := (b_inv l).all
  refine List.ext_getElem (by rw [h1, List.length_map, List.length_range]) fun i a b => ?_
  have := h2 i (by omega)
  rw [List.getD_eq_getElem?_getD, List.getElem?_eq_getElem a] at this
  rw [List.getElem_map, List.getElem_range]
  exact this
/-! below -/
def pgC (p : Pg) : Bool := p.any hasC
def bgB (look : List Pg) (p r : Nat) : Bool := (look.take p).any pgC || ((look.getD p []).take (r + 1)).any hasC
def rowBel (look : List Pg) (p r : Nat) : Rw := if bgB look p r = true then wholeN ((look.getD p []).getD r []) else (look.getD p []).getD r []
def belowN (look : List Pg) : List Pg := (List.range look.length).map fun p => (List.range (look.getD p []).length).map (rowBel look p)
def spotP (look : List Pg) (p : Nat) : List (Nat × Nat) := ((List.range (look.getD p []).length).filter fun r => hasC ((look.getD p []).getD r [])).map fun r => (p, r)
def spots (look : List Pg) : List (Nat × Nat) := (List.range look.length).flatMap (spotP look)
def lexP (a b : Nat × Nat) : Prop := a.1 < b.1 ∨ (a.1 = b.1 ∧ a.2 < b.2)
theorem spots_mem {look : List Pg} {x : Nat × Nat} : x ∈ spots look ↔ x.1 < look.length ∧ x.2 < (look.getD x.1 []).length ∧ hasC ((look.getD x.1 []).getD x.2 []) = true := by
  unfold spots
  rw [List.mem_flatMap]
  constructor
  · rintro ⟨p, hp, h⟩
    obtain ⟨r, hr, rfl⟩ := List.mem_map.mp h
    have ⟨a, b⟩ := List.mem_filter.mp hr
    exact ⟨List.mem_range.mp hp, List.mem_range.mp a, b⟩
  · rintro ⟨a, b, c⟩
    exact ⟨x.1, List.mem_range.mpr a, List.mem_map.mpr ⟨x.2, List.mem_filter.mpr ⟨List.mem_range.mpr b, c⟩, rfl⟩⟩
theorem spots_asc (look : List Pg) : (spots look).Pairwise lexP := by
  unfold spots
  rw [List.pairwise_flatMap]
  refine ⟨fun p _ => ?_, ?_⟩
  · unfold spotP
    rw [List.pairwise_map]
    exact (List.Pairwise.filter _ List.pairwise_lt_range).imp fun {a b} h => .inr ⟨rfl, h⟩
  · refine List.pairwise_lt_range.imp fun {a b} h x hx y hy => ?_
    obtain ⟨_, _, rfl⟩ := List.mem_map.mp hx
    obtain ⟨_, _, rfl⟩ := List.mem_map.mp hy
    exact .inl h
/-- behind the first cover, or at it -/
theorem bg_spots {look : List Pg} {p r : Nat} (hp : p < look.length) (hr : r < (look.getD p []).length) : bgB look p r = true ↔ ∃ f t, spots look = f :: t ∧ ¬ lexP (p, r) f := by
  have ex : bgB look p r = true ↔ ∃ x ∈ spots look, ¬ lexP (p, r) x := by
    unfold bgB
    rw [Bool.or_eq_true]
    constructor
    · rintro (h | h)
      · obtain ⟨pg, hpg, hc⟩ := List.any_eq_true.mp h
        obtain ⟨i, hi, ei⟩ := mem_at hpg
        rw [List.length_take] at hi
        rw [List.getElem?_take, if_pos (by omega)] at ei
        obtain ⟨rw0, hrw, hc⟩ := List.any_eq_true.mp hc
        obtain ⟨j, hj, ej⟩ := mem_at hrw
        have e1 : look.getD i [] = pg := getD_of ei
        refine ⟨(i, j), spots_mem.mpr ⟨by show i < _; omega, by show j < (look.getD i []).length; rw [e1]; exact hj, by show hasC ((look.getD i []).getD j []) = true; rw [e1, getD_of ej]; exact hc⟩, ?_⟩
        rintro (z | ⟨z, _⟩)
        · have z : p < i := z; omega
        · have z : p = i := z; omega
      · obtain ⟨rw0, hrw, hc⟩ := List.any_eq_true.mp h
        obtain ⟨j, hj, ej⟩ := mem_at hrw
        rw [List.length_take] at hj
        rw [List.getElem?_take, if_pos (by omega)] at ej
        refine ⟨(p, j), spots_mem.mpr ⟨hp, by show j < (look.getD p []).length; omega, by show hasC ((look.getD p []).getD j []) = true; rw [getD_of ej]; exact hc⟩, ?_⟩
        rintro (z | ⟨_, z⟩)
        · have z : p < p := z; omega
        · have z : r < j := z; omega
    · rintro ⟨⟨i, j⟩, hx, hn⟩
      obtain ⟨a, b, c⟩ := spots_mem.mp hx
      have a : i < look.length := a
      have b : j < (look.getD i []).length := b
      have c : hasC ((look.getD i []).getD j []) = true := c
      by_cases h : i < p
      · refine .inl (List.any_eq_true.mpr ⟨look.getD i [], ?_, List.any_eq_true.mpr ⟨_, getD_mem b, c⟩⟩)
        refine List.mem_iff_getElem?.mpr ⟨i, ?_⟩
        rw [List.getElem?_take, if_pos h, List.getD_eq_getElem?_getD, List.getElem?_eq_getElem a]; rfl
      · have hi : i = p := by
          by_cases z : p < i
          · exact absurd (.inl z) hn
          · omega
        subst hi
        have hj : j ≤ r := by
          by_cases z : r < j
          · exact absurd (.inr ⟨rfl, z⟩) hn
          · omega
        refine .inr (List.any_eq_true.mpr ⟨_, ?_, c⟩)
        refine List.mem_iff_getElem?.mpr ⟨j, ?_⟩
        rw [List.getElem?_take, if_pos (by omega)]
        show (look.getD i [])[j]? = some ((look.getD i []).getD j [])
        generalize look.getD i [] = pg at b
        rw [List.getD_eq_getElem?_getD, List.getElem?_eq_getElem b]; rfl
  rw [ex]
  have asc := spots_asc look
  constructor
  · rintro ⟨x, hx, hn⟩
    cases e : spots look with
    | nil => rw [e] at hx; cases hx
    | cons f t =>
      rw [e] at hx asc
      refine ⟨f, t, rfl, fun z => hn ?_⟩
      rcases List.mem_cons.mp hx with q | q
      · rw [q]; exact z
      · have l := (List.pairwise_cons.mp asc).1 x q
        rcases z with z | ⟨z1, z2⟩ <;> rcases l with l | ⟨l1, l2⟩
        · exact .inl (Nat.lt_trans z l)
        · exact .inl (by rw [← l1]; exact z)
        · exact .inl (by rw [z1]; exact l)
        · exact .inr ⟨z1.trans l1, Nat.lt_trans z2 l2⟩
  · rintro ⟨f, t, e, hn⟩
    exact ⟨f, by rw [e]; exact List.mem_cons_self, hn⟩
end Vf

set_option Elab.async false
set_option linter.all false
set_option maxRecDepth 100000
set_option maxHeartbeats 4000000
/-! ### rules: enumerate over a text, list of a text, >= of tuples of ints -/
namespace PySem
set_option maxHeartbeats 2000000 in
theorem vf_meets {v : Value} {o : Obj} {G : Heap → Prop} (B : Begins v o G) :
    Meets (Builtin.«enumerate.__new__» ⟨[.type "enumerate", v], []⟩)
      (fun _ R s => G s.heap ∧ R (.ok (.ret (.ref (s.heap.push o).objs.size)))
        { s with heap := (s.heap.push o).push { cls := .type "enumerate", data := .fields #[.none, .bool false, .ref s.heap.objs.size, rawInt 0, .none, .none] } }) := by
  refine .of_wp fun prog w A R s h => ?_
  rcases s with ⟨hp, g, d, tk, os⟩
  rcases h with ⟨g1, r1⟩
  have sb := sub_enumerate
  have begins : ∀ {A' : Around} {E : Value → Shared → Prop} {Q : Value → Shared → Prop}, Q (.ref hp.objs.size) ⟨hp.push o, g, d, tk, os⟩ →
      wpAny (model prog w) A' (pyIter v) Q E ⟨hp, g, d, tk, os⟩ := fun q => B.iter prog w _ _ ⟨hp, g, d, tk, os⟩ _ g1 q
  wp_walk using begins
  refine wpAny_stack_any fun st => (wpAny_pure ?_)
  split
  next c _ _ _ _ _ =>
    cases (c == Value.type "enumerate") <;> (wp_walk using begins; exact Exists.intro _ (And.intro rfl r1))
  next => wp_walk using begins; exact Exists.intro _ (And.intro rfl r1)
section
variable {prog : Program} {w : World} {A : Around} {E : Value → Shared → Prop} {s : Shared}
theorem vf_enum {v : Value} {o : Obj} {G : Heap → Prop} {Q : Value → Shared → Prop} (B : Begins v o G) (g1 : G s.heap)
    (h : ∀ h' : Heap, IsEnum h' (s.heap.objs.size + 1) s.heap.objs.size 0 .none → h'.get? s.heap.objs.size = some o →
      (∀ b u, s.heap.get? b = some u → h'.get? b = some u) → Q (.ref (s.heap.objs.size + 1)) { s with heap := h' }) :
    wpAny (model prog w) A (call (.type "enumerate") [v]) Q E s := by
  have zz : (s.heap.push o).objs.size = s.heap.objs.size + 1 := Heap.size_push ..
  have ie : IsEnum ((s.heap.push o).push { cls := .type "enumerate", data := .fields #[.none, .bool false, .ref s.heap.objs.size, rawInt 0, .none, .none] }) (s.heap.objs.size + 1) s.heap.objs.size 0 .none := by
    have q := Heap.get?_push_size (s.heap.push o) (o := { cls := .type "enumerate", data := .fields #[.none, .bool false, .ref s.heap.objs.size, rawInt 0, .none, .none] }) rfl
    rw [zz] at q
    exact q
  refine callType_new F.called_enumerate (by decide) (F.typeCall_enumerate_1 _) (F.newCall_enumerate_1 _)
    (fun obj => F.args_object_init_2 obj _) F.entry_enumerate_new (vf_meets B) (And.intro g1 ?_)
  show _ ∧ _
  rw [zz]
  exact ⟨⟨_, ie, rfl⟩, h _ ie (Heap.get?_push_of_some _ (Heap.get?_push_size _ B.free))
    fun b u x => Heap.get?_push_of_some _ (Heap.get?_push_of_some _ x)⟩
end
end PySem
namespace Vf
open PySem PySem.Spec PyProof.Rows L2 TL
/-- the text x, each sign in a new pair with its number -/
def IteS (x : Str) : It where
  go := fun i _ => i < x.cps.size
  yld := fun i H v H' => ∃ (T : Addr) (c : Nat), v = .ref T ∧ H T = none ∧ H' = upd H T (.tup [.int (i : Nat), .str ⟨#[c]⟩]) ∧ x.cps[i]? = some c
  stop := fun i _ => x.cps.size = i
theorem apart_of {h : Heap} {a b : Addr} {o u : Obj} {m n : String} (ha : h.get? a = some o) (hb : h.get? b = some u) (ca : o.cls = .type m) (cb : u.cls = .type n) (ne : m ≠ n) : a ≠ b := fun e => by
  rw [e, hb] at ha
  have e2 : u = o := Option.some.inj ha
  rw [e2, ca] at cb
  exact ne (by injection cb)
theorem turn_enumS {P : Program} {w : World} {K : PySem.W.Frag} {elts : List Expr} {kk : Nat} {tpos : Pos} (x : Str) (t : Tok) (e it : Addr) :
    Turn P w K (.Tuple elts kk tpos) (IteS x) [e, it] e (fun i h => (∃ old, IsEnum h e it ((i : Nat) : Int) old) ∧ h.IsStrIter it (strIterType x) x t i ∧ e ≠ it) where
  mem := List.mem_cons_self
  obj := fun i h st b hb => by
    obtain ⟨⟨old, ie⟩, ⟨u, hu, _, du⟩, _⟩ := st
    rcases List.mem_cons.mp hb with z | z
    · rw [z]; exact ⟨_, ie, fun v q => nomatch q⟩
    · rw [List.mem_singleton.mp z]; exact ⟨u, hu, fun v q => by rw [du] at q; cases q⟩
  keep := fun i h h' st k => by
    obtain ⟨⟨old, ie⟩, ⟨u, hu, r⟩, ne⟩ := st
    exact ⟨⟨old, k e List.mem_cons_self _ ie⟩, ⟨u, k it (List.mem_cons_of_mem _ List.mem_cons_self) u hu, r⟩, ne⟩
  item := by
    intro X hP hw hK hc i pins s σ H E I hf st hg
    subst hP hw hK
    obtain ⟨⟨old, ie⟩, it1, ne⟩ := st
    have hel : e < s.heap.objs.size := Heap.lt_size ie
    obtain ⟨oi, gi, ci, _⟩ := id it1
    have hil : it < s.heap.objs.size := Heap.lt_size gi
    refine wpAny_pyNext_enum_itemD (Draws.text (prog := X.prog) (w := X.w) (A := X.A.in1) (I.ok.hd hc) it x t) ie it1 hg ne (fun hm => ne (List.mem_singleton.mp hm)) fun y h' tk hy ho hst hT hsz hk => ?_
    obtain ⟨c, u, hcx, rfl⟩ := hy
    refine ⟨_, rfl, wpAny_letOwnedTupleGo_enum (s := { s with heap := h', toks := tk + 1 }) ho fun h2 he2 sb => ?_⟩
    have hT2 : h2.get? s.heap.objs.size = some { cls := .type "tuple", data := .seq #[.int i tk, .str ⟨#[c]⟩ u] } := (sb.2 _ (Nat.ne_of_gt hel)).trans hT
    have made : ObjOk X.prog X.w (upd H s.heap.objs.size (.tup [.int (i : Nat), .str ⟨#[c]⟩])) h2 s.heap.objs.size (.tup [.int (i : Nat), .str ⟨#[c]⟩]) :=
      ⟨(by show 2 ≤ sizeLine; decide), [.int i tk, .str ⟨#[c]⟩ u], .cons ⟨_, rfl⟩ (.cons ⟨_, rfl⟩ .nil), ⟨_, hT2, rfl, _, rfl⟩⟩
    have J : Inv X pins σ (upd H s.heap.objs.size (.tup [.int (i : Nat), .str ⟨#[c]⟩])) { s with heap := h2, toks := tk + 1 } :=
      I.turnedNew (ch := [e, it]) (fun b ob hb q => (sb.2 b (fun z => hb (by rw [z]; exact List.mem_cons_self))).trans
        (hk b ob (fun z => hb (by rw [z]; exact List.mem_cons_self)) (fun z => hb (by rw [z]; exact List.mem_cons_of_mem _ List.mem_cons_self)) q)) hf (Nat.le_refl _) made
    have e1 : ((i + 1 : Nat) : Int) = (i : Int) + 1 := by omega
    refine ⟨.ref s.heap.objs.size, _, J, rfl, ⟨_, c, rfl, I.hok.fresh (Nat.le_refl _), rfl, hcx⟩,
      ⟨⟨_, by rw [e1]; exact he2⟩, ?_, ne⟩, fun b hb => ?_⟩
    · obtain ⟨o3, g3, r3⟩ := hst
      exact ⟨o3, (sb.2 it (Ne.symm ne)).trans g3, r3⟩
    · have hlt : b < s.heap.objs.size := by
        rcases List.mem_cons.mp hb with z | z
        · rw [z]; exact hel
        · rw [List.mem_singleton.mp z]; exact hil
      rw [upd_ne (Nat.ne_of_lt hlt)]
      exact (hf b hb).1
  done := by
    intro X hP hw hK hc i pins s σ H E I hf st hg
    subst hP hw hK
    obtain ⟨⟨old, ie⟩, it1, ne⟩ := st
    obtain ⟨f0, f1, f2, f3, f4, f5⟩ := hf it (List.mem_cons_of_mem _ List.mem_cons_self)
    have hg : x.cps.size = i := hg
    subst hg
    exact wpAny_pyNext_enum_endD (Draws.text (prog := X.prog) (w := X.w) (A := X.A.in1) (I.ok.hd hc) it x t) ie it1 fun h' eb => ⟨rfl, I.turned (t' := s.toks) (fun b o hb q => eb b o hb q) f0 f1 f3 f4 f5⟩
  self := fun A i s Q E st h => by
    obtain ⟨⟨_, ie⟩, _⟩ := st
    exact wpAny_pyIter_enum ie h
def iEnumS (ta : TA) : TI := fun σ H R => ta σ H fun vs H1 => ∃ x : Str, vs = [.str x] ∧ R (IteS x) H1
theorem pi_enumS {X : Cx} {e : Expr} {ta : TA} {p pos tpos : Pos} {elts : List Expr} {kk : Nat} (hg : Gl X "enumerate") (hm : X.mg "enumerate" = none) (ha : PA X [e] ta)
    (hs : starEach [e] X.env = [(false, eval e X.env)] := by rfl) : PI X (.Tuple elts kk tpos) (.Call (.Name "enumerate" p) [e] [] pos) (iEnumS ta) := by
  constructor
  intro pins s σ H R I h
  refine Call_ (ld_blt I hg hm boot_enumerate (PyProof.Rows.callWith_type1 (thn (ha.run pos pins s σ H _ I h) fun us s1 res => ?_) hs rfl))
  obtain ⟨vs, H1, I1, r1, x, ex, q⟩ := res
  subst ex
  cases r1 with
  | cons r rr =>
    cases rr
    obtain ⟨t, rfl⟩ := r
    refine vf_enum (begins_text x t) trivial fun h' ie gi hk => wpAny_pyIter_enum ie ?_
    have J : Inv X pins σ H1 { s1 with heap := h' } := I1.kept (t' := s1.toks) hk
    refine ⟨s1.heap.objs.size + 1, [s1.heap.objs.size + 1, s1.heap.objs.size], _, _, H1, rfl, J, turn_enumS x t (s1.heap.objs.size + 1) s1.heap.objs.size, ⟨⟨.none, ie⟩, ⟨_, gi, rfl, rfl⟩, Nat.succ_ne_self _⟩, fun b hb => ?_, q⟩
    have le : s1.heap.objs.size ≤ b := by
      rcases List.mem_cons.mp hb with z | z
      · rw [z]; exact Nat.le_succ _
      · rw [List.mem_singleton.mp z]; exact Nat.le_refl _
    exact I1.fpOk le (I1.hok.fresh le)
theorem walk_enumS {x : Str} : Walk (IteS x) x.cps.size (fun _ => True) (fun i H v H' => ∃ (T : Addr) (c : Nat), v = .ref T ∧ H T = none ∧ H' = upd H T (.tup [.int (i : Nat), .str ⟨#[c]⟩]) ∧ x.cps[i]? = some c) :=
  ⟨fun _ _ hi _ => hi, fun _ _ => rfl, fun _ _ _ _ _ _ y => y⟩
/-- list(text): its signs -/
def rListS : List V → Hp → VK → Prop := fun xs H Q => ∃ zs : List Nat, xs = [sV zs] ∧ zs.length ≤ sizeLine ∧ ∀ l, H l = none → Q (.ref l) (upd H l (.lst (zs.map fun c => sV [c])))
theorem vals_signs : ∀ (zs : List Nat) (us : List Value), us.length = zs.length → (∀ (j : Nat) (v : Value), us[j]? = some v → ∃ (c : Nat) (u : Tok), zs[j]? = some c ∧ v = Value.str ⟨#[c]⟩ u) → Vals (zs.map fun c : Nat => sV [c]) us
  | [], [], _, _ => .nil
  | z :: zs, u :: us, h, g => by
    obtain ⟨c, t, h1, h2⟩ := g 0 u rfl
    have : z = c := Option.some.inj h1
    subst this
    refine .cons ⟨t, h2⟩ (vals_signs zs us (by simpa using h) fun j v hj => ?_)
    exact g (j + 1) v hj
  | [], _ :: _, h, _ => nomatch h
  | _ :: _, [], h, _ => nomatch h
theorem call_listS {X : Cx} (hc : X.calm = true) : CallR X (.type "list") rListS := by
  intro pins s σ H xs us Q I r h
  obtain ⟨zs, rfl, hz, q⟩ := h
  obtain ⟨u, rfl, t, rfl⟩ := vals1 r
  refine call_list_str (hn := by simpa using hz) (I.ok.hd hc) ⟨zs.toArray⟩ t fun h' tk acc' c' hk hS' hacc => ?_
  refine ⟨.ref s.heap.objs.size, _, I.laid (t' := tk) (o := .lst (zs.map fun c => sV [c])) hk (Nat.le_refl _) ?_, rfl, q _ (I.hok.fresh (Nat.le_refl _))⟩
  refine ⟨by rw [List.length_map]; exact hz, acc'.toList, c', vals_signs zs _ (by simpa using hacc.1) fun j v hv => ?_, by simpa using hS'⟩
  obtain ⟨c, u, hc2, rfl⟩ := hacc.2 j v (by simpa using hv)
  exact ⟨c, u, by simpa using hc2, rfl⟩
/-- t >= u of tuples of ints -/
def rGeT (K : PySem.W.Frag) : R2 := fun x y H Q => ∃ (a b : Addr) (ns ms : List Int), x = .ref a ∧ y = .ref b ∧ SqT K H a (ns.map V.int) ∧ SqT K H b (ms.map V.int) ∧
  Q (.bl (Ob.lexAt (fun j => decide (ns.getD j 0 = ms.getD j 0)) (fun j => decide (ms.getD j 0 ≤ ns.getD j 0)) (decide (ns.length ≥ ms.length)) 0 (min ns.length ms.length))) H
theorem op_geT {X : Cx} (hu : X.A.units < cLine) : OpR X (compareOp .GtE) (rGeT X.K) := by
  intro pins s σ H x y v u Q I rx ry h
  obtain ⟨a, b, ns, ms, rfl, rfl, ha, hb, q⟩ := h
  cases rx
  cases ry
  obtain ⟨its, r1, p1, _⟩ := I.tuple ha
  obtain ⟨its2, r2, p2, _⟩ := I.tuple hb
  have i1 : IntsAre its ns := Vals.ints r1
  have i2 : IntsAre its2 ms := Vals.ints r2
  have e1 : its.toArray.size = ns.length := by rw [List.size_toArray]; exact i1.length
  have e2 : its2.toArray.size = ms.length := by rw [List.size_toArray]; exact i2.length
  have at1 : ∀ j (h1 : j < its.toArray.size), ∃ t, its.toArray[j] = .int (ns.getD j 0) t := fun j h1 => PyProof.Rows.IntsAre.int_at i1 _ _ (by simp at h1; simp [h1])
  have at2 : ∀ j (h1 : j < its2.toArray.size), ∃ t, its2.toArray[j] = .int (ms.getD j 0) t := fun j h1 => PyProof.Rows.IntsAre.int_at i2 _ _ (by simp at h1; simp [h1])
  have R := Ob.RcOp.tuples_ge (A := X.A) (s := s) (e := fun j => decide (ns.getD j 0 = ms.getD j 0)) (r := fun j => decide (ms.getD j 0 ≤ ns.getD j 0)) p1 p2 hu (fun j h1 h2 => by
    obtain ⟨t, et⟩ := at1 j h1
    obtain ⟨t', et'⟩ := at2 j h2
    rw [et, et']
    have z : (ns.getD j 0 == ms.getD j 0) = decide (ns.getD j 0 = ms.getD j 0) := by
      by_cases q : ns.getD j 0 = ms.getD j 0
      · rw [decide_eq_true q]; exact beq_iff_eq.mpr q
      · rw [decide_eq_false q]; exact beq_eq_false_iff_ne.mpr q
    rw [← z]
    exact SeqAt.EqAt.int_int _ _ _ _) (fun j h1 h2 _ => by
    obtain ⟨t, et⟩ := at1 j h1
    obtain ⟨t', et'⟩ := at2 j h2
    rw [et, et']
    exact Ob.RcOp.ge_int _ _ _ _)
  rw [e1, e2] at R
  have z : wpAny (model X.prog X.w) X.A (compareOp .GtE (.ref a) (.ref b)) (EP X pins σ Q) X.xe s := R X.prog X.w X.xe (EP X pins σ Q) ⟨.bl _, H, I, rfl, q⟩
  exact z
theorem ge_pair (a b c d : Nat) : Ob.lexAt (fun j => decide (([(a : Int), (b : Int)] : List Int).getD j 0 = ([(c : Int), (d : Int)] : List Int).getD j 0)) (fun j => decide (([(c : Int), (d : Int)] : List Int).getD j 0 ≤ ([(a : Int), (b : Int)] : List Int).getD j 0)) (decide (2 ≥ 2)) 0 (min 2 2) = decide (c < a ∨ (a = c ∧ d ≤ b)) := by
  show Ob.lexAt _ _ _ 0 2 = _
  rw [Ob.lexAt_succ, Ob.lexAt_succ, Ob.lexAt_zero]
  show (if decide ((a : Int) = (c : Int)) = true then (if decide ((b : Int) = (d : Int)) = true then decide (2 ≥ 2) else decide ((d : Int) ≤ (b : Int))) else decide ((c : Int) ≤ (a : Int))) = _
  by_cases h : (a : Int) = (c : Int)
  · rw [decide_eq_true h, if_pos rfl]
    by_cases h2 : (b : Int) = (d : Int)
    · rw [decide_eq_true h2, if_pos rfl, decide_eq_true (show c < a ∨ (a = c ∧ d ≤ b) by omega)]; rfl
    · rw [decide_eq_false h2, if_neg Bool.false_ne_true]
      by_cases h3 : (d : Int) ≤ (b : Int)
      · rw [decide_eq_true h3, decide_eq_true (show c < a ∨ (a = c ∧ d ≤ b) by omega)]
      · rw [decide_eq_false h3, decide_eq_false (show ¬ (c < a ∨ (a = c ∧ d ≤ b)) by omega)]
  · rw [decide_eq_false h, if_neg Bool.false_ne_true]
    by_cases h3 : (c : Int) ≤ (a : Int)
    · rw [decide_eq_true h3, decide_eq_true (show c < a ∨ (a = c ∧ d ≤ b) by omega)]
    · rw [decide_eq_false h3, decide_eq_false (show ¬ (c < a ∨ (a = c ∧ d ≤ b)) by omega)]
/-! ### text times int -/
theorem op_mul_str {X : Cx} : OpR X (binaryOp .Mult) (fun x y H Q => ∃ z n, x = .str z ∧ y = .int n ∧ MulOk z n ∧ Q (.str (Txt.mul z n)) H) := by
  intro pins s σ H x y v u Q I rx ry h
  obtain ⟨z, n, rfl, rfl, hm, q⟩ := h
  obtain ⟨t, rfl⟩ := rx
  obtain ⟨t', rfl⟩ := ry
  exact SB.mul hm fun t' k => ⟨.str (Txt.mul z n), H, I.tok _, ⟨_, rfl⟩, q⟩
theorem mul_ok {z : Str} {n : Int} (h2 : 2 ≤ n) (hn : n ≤ 1000) (hz : z.length ≤ 10000) : MulOk z n := by
  refine ⟨?_, fun _ _ => ?_, fun _ _ => ?_⟩
  · rw [decide_eq_false (by omega), decide_eq_false (by omega)]; rfl
  · have h3 : (9000000 : Int) ≤ (2 ^ 63 - 1) / n := (Int.le_ediv_iff_mul_le (by omega)).mpr (by omega)
    omega
  · have e : n.toNat ≤ 1000 := by omega
    have h4 : z.length * n.toNat ≤ 10000 * 1000 := Nat.mul_le_mul hz e
    show decide (sizeLine < z.length * n.toNat) = false
    exact decide_eq_false (Nat.not_lt.mpr (Nat.le_trans h4 (by decide)))
theorem mul_okN {z : Str} {n : Nat} (hn : n ≤ 1000) (hz : z.length ≤ 10000) : MulOk z (n : Int) := by
  by_cases h : 2 ≤ n
  · exact mul_ok (by omega) (by omega) hz
  · refine ⟨?_, fun h1 h2 => ?_, fun h1 h2 => ?_⟩
    · rw [decide_eq_false (by omega), decide_eq_false (by omega)]; rfl
    · have e : n = 1 := by omega
      subst e
      cases h2
    · have e : n = 1 := by omega
      subst e
      cases h2
theorem foldl_reps (zs : List Nat) : ∀ (n : Nat) (acc : Array Nat), (((List.replicate n zs.toArray).foldl (· ++ ·) acc)).toList = acc.toList ++ (List.replicate n zs).flatten
  | 0, acc => by rw [List.replicate_zero, List.replicate_zero, List.flatten_nil, List.append_nil]; rfl
  | n + 1, acc => by
    rw [List.replicate_succ, List.replicate_succ, List.foldl_cons, foldl_reps zs n, List.flatten_cons, Array.toList_append, List.append_assoc]
theorem mul_mk (zs : List Nat) (hz : zs ≠ []) (n : Nat) : Txt.mul (mkS zs) (n : Int) = mkS (List.replicate n zs).flatten := by
  unfold Txt.mul
  by_cases h0 : n = 0
  · subst h0
    rw [if_pos (by decide), List.replicate_zero, List.flatten_nil]
    rfl
  · rw [if_neg (by omega)]
    have hl : ((mkS zs).length == 0) = false := by
      rw [mkS_len]
      refine beq_eq_false_iff_ne.mpr fun e => hz ?_
      exact List.eq_nil_of_length_eq_zero e
    rw [hl, Bool.or_false]
    by_cases h1 : n = 1
    · subst h1
      rw [if_pos (show (((1 : Nat) : Int) == 1) = true from rfl)]
      show mkS zs = mkS (zs ++ [])
      rw [List.append_nil]
    · rw [if_neg (fun q => h1 (by have := beq_iff_eq.mp q; omega)), Int.toNat_natCast]
      have e := foldl_reps zs n #[]
      have e2 : ((List.replicate n (mkS zs).cps).foldl (· ++ ·) #[]).toList = (List.replicate n zs).flatten := e
      show (⟨_⟩ : Str) = ⟨_⟩
      congr 1
      rw [← e2, Array.toArray_toList]
theorem flat_one1 (c n : Nat) : (List.replicate n [c]).flatten = List.replicate n c := by
  induction n with
  | zero => rfl
  | succ n ih => rw [List.replicate_succ, List.flatten_cons, ih, List.replicate_succ]; rfl
theorem mul_sign (c n : Nat) : Txt.mul (mkS [c]) (n : Int) = mkS (List.replicate n c) := by
  rw [mul_mk [c] (by simp) n, flat_one1]
theorem hash_mk : (("#" : Str)) = mkS [35] := by decide +kernel
end Vf

set_option Elab.async false
set_option linter.all false
set_option maxRecDepth 100000
set_option maxHeartbeats 4000000
namespace Vf
open PySem PySem.Spec PyProof.Rows L2 TL
/-! ### curtains: the program -/
def sgR : Hp → V → List Nat → Prop := fun _ v zs => v = sV zs
theorem sgR.mn : Mn sgR := ⟨fun h _ => h⟩
def PgR : Hp → V → Pg → Prop := TupR sgR
theorem PgR.mn : Mn PgR := TupR.mn sgR.mn
def LkR : Hp → V → List Pg → Prop := TupR PgR
theorem LkR.mn : Mn LkR := TupR.mn PgR.mn
theorem LV.signs {H : Hp} : ∀ {us : List V} {xs : List Rw}, LV (sgR H) us xs → us = xs.map sV := by
  intro us xs h
  refine List.ext_getElem? fun i => ?_
  rw [List.getElem?_map]
  by_cases hi : i < xs.length
  · obtain ⟨x, e, r⟩ := h.2 i _ (List.getElem?_eq_getElem hi)
    rw [e, List.getElem?_eq_getElem hi, show x = sV xs[i] from r]; rfl
  · rw [List.getElem?_eq_none (by rw [h.1]; omega), List.getElem?_eq_none (by omega)]; rfl
theorem LV.of_signs (H : Hp) (xs : List Rw) : LV (sgR H) (xs.map sV) xs := ⟨List.length_map _, fun i r e => ⟨sV r, by rw [List.getElem?_map, e]; rfl, rfl⟩⟩
theorem PgR.iff {H : Hp} {v : V} {p : Pg} : PgR H v p ↔ ∃ a, v = .ref a ∧ H a = some (.tup (p.map sV)) := by
  constructor
  · rintro ⟨a, us, e, h1, h2⟩
    rw [h2.signs] at h1
    exact ⟨a, e, h1⟩
  · rintro ⟨a, e, h⟩
    exact ⟨a, _, e, h, LV.of_signs H p⟩
def PgOk (p : Pg) : Prop := p.length ≤ 200 ∧ ∀ r ∈ p, r.length ≤ 200
def LkOk (l : List Pg) : Prop := l.length ≤ 200 ∧ ∀ p ∈ l, PgOk p
section
variable {P : Program} {w : World} {K : PySem.W.Frag} {mg : Str → Option Value} {base : Heap}
def spWhole : Sp := fun vs H Q _ => ∃ zs : Rw, vs = [sV zs] ∧ zs.length ≤ 1000 ∧ Q (sV (wholeN zs)) H
theorem ok_whole (T : Txt K mg) : FnOk P w K mg base CX0 1 T.a_whole T.d_whole ["row"] spWhole := by
  refine T.D_whole.F.ok sc_whole (fun vs H Q E h => ?_) (fun cdv A outer s H vs Q E hr h => ?_)
  · obtain ⟨zs, rfl, _⟩ := h
    rfl
  · obtain ⟨zs, rfl, hz, q⟩ := h
    refine ⟨_, (pss_one (ps_ret (pe_op op_mul_str (pe_glob (v := .str "#") (by rfl) T.m_COVER ⟨_, rfl⟩) (pe_callB call_len_str (by rfl) T.n_len PySem.boot_len (pa_cons (pv 0) pa_nil))))), ?_⟩
    refine ⟨_, rfl, mkS zs, rfl, by rw [mkS_len]; exact big_ok (by omega), ?_⟩
    refine ⟨_, _, rfl, rfl, by rw [mkS_len]; exact mul_okN (by omega) (by decide), ?_⟩
    rw [hash_mk, mkS_len, mul_sign]
    exact q
def spWholeP : Sp := fun vs H Q _ => ∃ (v : V) (p : Pg), vs = [v] ∧ PgR H v p ∧ PgOk p ∧ ∀ H' u, Same H H' → PgR H' u (p.map wholeN) → Q u H'
theorem ok_wholeP (T : Txt K mg) : FnOk P w K mg base CX0 2 T.a_whole_page T.d_whole_page ["page"] spWholeP := by
  have G_whole : FnOk P w K mg base CX0 1 T.a_whole T.d_whole ["row"] spWhole := ok_whole T
  refine T.D_whole_page.F.ok sc_whole_page (fun vs H Q E h => ?_) (fun cdv A outer s H vs Q E hr h => ?_)
  · obtain ⟨v, p, rfl, _⟩ := h
    rfl
  · obtain ⟨v, p, rfl, hp, ⟨hl, hok⟩, q⟩ := h
    obtain ⟨a, rfl, ea⟩ := PgR.iff.mp hp
    refine ⟨_, (pss_one (ps_ret (pe_callTy call_tuple_of (by rfl) T.n_tuple (by decide +kernel) (pa_cons (pe_lc (own := [("row", 1)]) (g := gName 1) (tt := tYes) rfl sc_whole_page.nd (pi_tup (pv 0)) (blkOk_by (own := [("row", 1)]) (N := ["page", "row"]) (sc := (defScope s_whole_page)) (by decide +kernel)) (fun _ _ _ _ _ => (pg_name (i := 1) sc_whole_page.nd rfl (.inl rfl))) (fun _ _ _ _ _ => pts_nil) (fun _ _ _ _ _ => (pe_call G_whole (hr.mono (by decide)) (by rfl) T.D_whole.G T.D_whole.F.kp T.D_whole.B .nil pass0 (pa_cons (pv 1) pa_nil)))) pa_nil)))), ?_⟩
    refine ⟨_, rfl, a, rfl, ⟨_, SqT.of ea⟩, fun D nD => ?_⟩
    refine lc_it (walk_tup (K := K) (a := a) (xs := p.map sV)) (fun i H' => H' D = some (.lst (((p.take i).map wholeN).map sV)) ∧ Same H H') ⟨upd_same, same_upd (Same.refl H) nD⟩ ?_ ?_ ?_
    · rintro i H' _ ⟨_, k⟩
      exact SqT.of (k _ _ ea)
    · rintro i x H1 H2 hi ⟨eD, k1⟩ ⟨rfl, hx⟩
      rw [List.length_map] at hi
      rw [List.getElem?_map, List.getElem?_eq_getElem hi] at hx
      have hx := (Option.some.inj hx).symm
      subst hx
      refine ⟨rfl, ?_⟩
      have hz := hok _ (List.getElem_mem hi)
      refine ⟨_, rfl, p[i], rfl, by omega, _, eD, szN (by rw [List.length_map, List.length_map, List.length_take]; omega), ?_, same_mut k1 nD⟩
      rw [take_one (List.getElem?_eq_getElem hi), List.map_append, List.map_append]
      exact upd_same
    · rintro H1 ⟨eD, k1⟩
      rw [List.length_map, List.take_length] at eD
      refine ⟨D, _, rfl, .inl ⟨SqL.of eD, fun r nr => ?_⟩⟩
      exact q _ _ (same_upd k1 nr) (PgR.iff.mpr ⟨r, rfl, upd_same⟩)
def spHasC : Sp := fun vs H Q _ => ∃ (a : Addr) (p : Pg), vs = [.ref a] ∧ (H a = some (.tup (p.map sV)) ∨ H a = some (.lst (p.map sV))) ∧ p.length ≤ 200 ∧ ∀ H', Same H H' → Q (.bl (p.any hasC)) H'
theorem in_hash (zs : Rw) : decide ((35 : Nat) ∈ (mkS zs).cps.toList) = hasC zs := rfl
theorem ok_hasC (T : Txt K mg) : FnOk P w K mg base CX0 1 T.a_has_cover T.d_has_cover ["page"] spHasC := by
  refine T.D_has_cover.F.ok sc_has_cover (fun vs H Q E h => ?_) (fun cdv A outer s H vs Q E hr h => ?_)
  · obtain ⟨a, p, rfl, _⟩ := h
    rfl
  · obtain ⟨a, p, rfl, hp, hl, q⟩ := h
    refine ⟨_, (pss_one (ps_ret (pe_callB (cr_any (by rfl)) (by rfl) T.n_any (by decide +kernel) (pa_cons (pe_lc (own := [("row", 1)]) (g := gName 1) (tt := tYes) rfl sc_has_cover.nd (pi_or (pi_list (pv 0)) (pi_tup (pv 0))) (blkOk_by (own := [("row", 1)]) (N := ["page", "row"]) (sc := (defScope s_has_cover)) (by decide +kernel)) (fun _ _ _ _ _ => (pg_name (i := 1) sc_has_cover.nd rfl (.inl rfl))) (fun _ _ _ _ _ => pts_nil) (fun _ _ _ _ _ => (pe_cmpR op_in_sign (pe_glob (v := .str "#") (by rfl) T.m_COVER ⟨_, rfl⟩) (pv 1) (by rfl)))) pa_nil)))), ?_⟩
    have stp : ∀ (D : Addr), H D = none → ∀ (i : Nat) (x : V) (H1 : Hp), i < (p.map sV).length → (H1 D = some (.lst ((p.take i).map fun r => V.bl (hasC r))) ∧ Same H H1) → (p.map sV)[i]? = some x → ∃ r, x = sV r ∧ ∃ acc, H1 D = some (.lst acc) ∧ acc.length < sizeLine ∧ (upd H1 D (.lst (acc ++ [V.bl (hasC r)])) D = some (.lst ((p.take (i + 1)).map fun r => V.bl (hasC r))) ∧ Same H (upd H1 D (.lst (acc ++ [V.bl (hasC r)])))) := by
      rintro D nD i x H1 hi ⟨eD, k1⟩ hx
      rw [List.length_map] at hi
      rw [List.getElem?_map, List.getElem?_eq_getElem hi] at hx
      refine ⟨p[i], (Option.some.inj hx).symm, _, eD, szN (by rw [List.length_map, List.length_take]; omega), ?_, same_mut k1 nD⟩
      rw [take_one (List.getElem?_eq_getElem hi), List.map_append]
      exact upd_same
    have fin : ∀ (D : Addr) (H1 : Hp), (H1 D = some (.lst ((p.take (p.map sV).length).map fun r => V.bl (hasC r))) ∧ Same H H1) → ∃ (a : Addr) (bs : List Bool), [V.ref D] = [V.ref a] ∧ SqL K H1 a (bs.map V.bl) ∧ Q (.bl (bs.any id)) H1 := by
      rintro D H1 ⟨eD, k1⟩
      rw [List.length_map, List.take_length] at eD
      refine ⟨D, p.map hasC, rfl, by rw [List.map_map]; exact SqL.of eD, ?_⟩
      rw [List.any_map]
      exact q _ k1
    rcases hp with hp | hp
    · refine .inr ⟨_, rfl, a, rfl, ⟨_, SqT.of hp⟩, fun D nD => ?_⟩
      refine lc_it (walk_tup (K := K) (a := a) (xs := p.map sV)) (fun i H' => H' D = some (.lst ((p.take i).map fun r => V.bl (hasC r))) ∧ Same H H') ⟨upd_same, same_upd (Same.refl H) nD⟩ (fun i H' _ h => SqT.of (h.2 _ _ hp)) ?_ (fun H1 h => fin D H1 h)
      rintro i x H1 H2 hi h1 ⟨rfl, hx⟩
      obtain ⟨r, rfl, hh⟩ := stp D nD i x H2 hi h1 hx
      exact ⟨rfl, _, rfl, 35, mkS r, by rw [hash_mk]; rfl, rfl, hh⟩
    · refine .inl ⟨_, rfl, a, rfl, ⟨_, SqL.of hp⟩, fun D nD => ?_⟩
      refine lc_it (walk_list (K := K) (a := a) (xs := p.map sV)) (fun i H' => H' D = some (.lst ((p.take i).map fun r => V.bl (hasC r))) ∧ Same H H') ⟨upd_same, same_upd (Same.refl H) nD⟩ (fun i H' _ h => SqL.of (h.2 _ _ hp)) ?_ (fun H1 h => fin D H1 h)
      rintro i x H1 H2 hi h1 ⟨rfl, hx⟩
      obtain ⟨r, rfl, hh⟩ := stp D nD i x H2 hi h1 hx
      exact ⟨rfl, _, rfl, 35, mkS r, by rw [hash_mk]; rfl, rfl, hh⟩
end
end Vf

set_option Elab.async false
set_option linter.all false
set_option maxRecDepth 100000
set_option maxHeartbeats 4000000
namespace Vf
open PySem PySem.Spec PyProof.Rows L2 TL
theorem take_min {α : Type} (zs : List α) (a b n : Nat) : ((zs.drop a).take (min b zs.length - a)) = (zs.drop a).take (b - a) := by
  by_cases h : b ≤ zs.length
  · rw [Nat.min_eq_left h]
  · rw [Nat.min_eq_right (by omega), List.take_of_length_le (by rw [List.length_drop]; exact Nat.le_refl _), List.take_of_length_le (by rw [List.length_drop]; omega)]
theorem cut_near {zs : Rw} {x n : Nat} (hx : x < zs.length) {lo : Int} (h : lo = ((x - n : Nat) : Int)) {hi : Int} (h2 : hi = ((x + n + 1 : Nat) : Int)) : cutS (mkS zs) (some lo) (some hi) = mkS ((zs.drop (x - n)).take (x + n + 1 - (x - n))) := by
  subst h h2
  unfold cutS
  rw [HT.sIx_nat, HT.sIx_nat, mkS_len, Nat.min_eq_left (show x - n ≤ zs.length by omega)]
  show mkS ((zs.drop (x - n)).take (min (x + n + 1) zs.length - (x - n))) = _
  rw [take_min zs _ _ 0]
theorem near_has (n : Nat) (zs : Rw) (x : Nat) : hasC ((zs.drop (x - n)).take (x + n + 1 - (x - n))) = nearB n zs x := by
  unfold hasC
  cases e : nearB n zs x with
  | true => exact decide_eq_true (near_cut.mp e)
  | false => exact decide_eq_false fun z => by rw [near_cut.mpr z] at e; cases e
theorem mkS_get (zs : List Nat) (i : Nat) : (mkS zs).cps[i]? = zs[i]? := by
  show zs.toArray[i]? = _
  simp
theorem range_take {n i : Nat} (h : i < n) : (List.range n).take (i + 1) = (List.range n).take i ++ [i] := take_one (List.getElem?_range h)
theorem flat_sgs : ∀ zs : List Nat, (zs.map fun c => [c]).flatten = zs
  | [] => rfl
  | c :: zs => by rw [List.map_cons, List.flatten_cons, flat_sgs zs]; rfl
theorem join_sgs (zs : List Nat) : Txt.join ("" : Str) ((zs.map fun c => [c]).map mkS) = mkS zs := by
  rw [join_mk, flat_sgs]
theorem sgs_V (zs : List Nat) : zs.map (fun c => sV [c]) = ((zs.map fun c => [c]).map mkS).map V.str := by
  rw [List.map_map, List.map_map]; rfl
theorem sgs_sz {zs : List Nat} (h : zs.length ≤ 1000) : (((zs.map fun c => [c]).map mkS).map (·.length)).sum + ((zs.map fun c => [c]).map mkS).length * (("" : Str)).length ≤ 16777216 := by
  rw [sum_len, flat_sgs, show (("" : Str)).length = 0 from by rw [empty_mk, mkS_len]; rfl]; exact big_ok (by omega)
section
variable {P : Program} {w : World} {K : PySem.W.Frag} {mg : Str → Option Value} {base : Heap}
def spRowN (f : Nat → Rw → Rw) : Sp := fun vs H Q _ => ∃ (zs : Rw) (n : Nat), vs = [sV zs, nV n] ∧ zs.length ≤ 1000 ∧ 1 ≤ n ∧ n ≤ 1000 ∧ ∀ H', Same H H' → Q (sV (f n zs)) H'
theorem ok_wide (T : Txt K mg) : FnOk P w K mg base CX0 1 T.a_wide_row T.d_wide_row ["row", "distance"] (spRowN wideN) := by
  refine T.D_wide_row.F.ok sc_wide_row (fun vs H Q E h => ?_) (fun cdv A outer s H vs Q E hr h => ?_)
  · obtain ⟨zs, n, rfl, _⟩ := h
    rfl
  · obtain ⟨zs, n, rfl, hz, n1, hn, q⟩ := h
    refine ⟨_, (pss_one (ps_ret (pe_join pe_str (pe_lc (own := [("at", 2), ("sign", 3)]) (g := (gTup K 2 (gCons (gName 2) (gCons (gName 3) gNil)))) (tt := tYes) rfl sc_wide_row.nd (pi_enumS (by rfl) T.n_enumerate (pa_cons (pv 0) pa_nil)) (blkOk_by (own := [("at", 2), ("sign", 3)]) (N := ["row", "distance", "at", "sign"]) (sc := (defScope s_wide_row)) (by decide +kernel)) (fun _ _ _ _ _ => (pg_tup (by rfl) (pgs_cons (pg_name (i := 2) sc_wide_row.nd rfl (.inl rfl)) (pgs_cons (pg_name (i := 3) sc_wide_row.nd rfl (.inl rfl)) pgs_nil)))) (fun _ _ _ _ _ => pts_nil) (fun _ _ _ _ _ => (pe_ifExp (pt_cmpR op_in_sign (pe_glob (v := .str "#") (by rfl) T.m_COVER ⟨_, rfl⟩) (pe_slice sl_str (pv 0) (po_some (pe_callB (call_max2 (by rfl)) (by rfl) T.n_max (by decide +kernel) (pa_cons pe_int (pa_cons (pe_op op_sub (pv 2) (pv 1)) pa_nil)))) (po_some (pe_op op_add (pe_op op_add (pv 2) (pv 1)) pe_int))) (by rfl)) (pe_glob (v := .str "#") (by rfl) T.m_COVER ⟨_, rfl⟩) (pv 3))))))), ?_⟩
    refine ⟨⟨_, rfl⟩, _, rfl, mkS zs, rfl, fun D nD => ?_⟩
    refine lc_it walk_enumS (fun i H' => H' D = some (.lst (((List.range zs.length).take i).map fun x => sV [if nearB n zs x = true then 35 else zs.getD x 0])) ∧ Same H H') ⟨upd_same, same_upd (Same.refl H) nD⟩ (fun _ _ _ _ => trivial) ?_ ?_
    · rintro i x H1 H2 hi ⟨eD, k1⟩ ⟨Tu, c, rfl, nT, rfl, hc⟩
      have hi : i < zs.length := hi
      have hc : zs[i]? = some c := by rw [← mkS_get]; exact hc
      have ec : zs.getD i 0 = c := getD_of hc
      have k2 := same_upd (o := .tup [.int (i : Nat), .str ⟨#[c]⟩]) k1 nT
      have eD2 : upd H1 Tu (.tup [.int (i : Nat), .str ⟨#[c]⟩]) D = _ := (upd_ne (ne_of_none eD nT)).trans eD
      have eT : upd H1 Tu (.tup [.int (i : Nat), .str ⟨#[c]⟩]) Tu = _ := upd_same
      generalize upd H1 Tu (.tup [.int (i : Nat), .str ⟨#[c]⟩]) = H3 at k2 eD2 eT
      refine ⟨Tu, _, rfl, SqT.of eT, rfl, ?_⟩
      refine ⟨_, _, rfl, _, _, rfl, rfl, rfl, ?_⟩
      refine ⟨_, rfl, _, rfl, _, rfl, _, _, rfl, rfl, _, _, rfl, _, rfl, _, rfl, _, rfl, _, _, rfl, rfl, _, _, rfl, rfl, _, rfl, mkS zs, rfl, by rw [mkS_len]; exact big_ok (by omega), ?_⟩
      rw [cut_near (n := n) hi (by split <;> omega) (by omega)]
      refine ⟨35, _, by rw [hash_mk]; rfl, rfl, _, rfl, ?_⟩
      rw [in_hash, near_has]
      have ac : ∀ b : Nat, b = (if nearB n zs i = true then 35 else zs.getD i 0) → ∃ acc, H3 D = some (.lst acc) ∧ acc.length < sizeLine ∧ (upd H3 D (.lst (acc ++ [sV [b]])) D = some (.lst (((List.range zs.length).take (i + 1)).map fun x => sV [if nearB n zs x = true then 35 else zs.getD x 0])) ∧ Same H (upd H3 D (.lst (acc ++ [sV [b]])))) := fun b hb => by
        refine ⟨_, eD2, szN (by rw [List.length_map, List.length_take, List.length_range]; omega), ?_, same_mut k2 nD⟩
        rw [range_take hi, List.map_append, hb]
        exact upd_same
      by_cases h : nearB n zs i = true
      · rw [h]
        have := ac 35 (by rw [if_pos h])
        rw [show (sV [35] : V) = V.str ("#" : Str) from by rw [hash_mk]; rfl] at this
        exact this
      · rw [Bool.eq_false_iff.mpr h]
        exact ⟨_, rfl, ac c (by rw [if_neg h, ec])⟩
    · rintro H1 ⟨eD, k1⟩
      have eD : H1 D = some (.lst ((wideN n zs).map fun c => sV [c])) := by
        rw [eD, show (mkS zs).cps.size = zs.length from rfl, List.take_of_length_le (by rw [List.length_range]; exact Nat.le_refl _)]
        unfold wideN
        rw [List.map_map]; rfl
      refine ⟨_, D, ((wideN n zs).map fun c => [c]).map mkS, rfl, rfl, .inl (SqL.of (by rw [eD, sgs_V])), sgs_sz (by unfold wideN; rw [List.length_map, List.length_range]; exact hz), ?_⟩
      rw [join_sgs]
      exact q _ k1
theorem dec_text (zs ys : List Nat) : decide (V.str (mkS zs) = V.str (mkS ys)) = decide (zs = ys) := by
  by_cases h : zs = ys
  · subst h; rw [decide_eq_true (Eq.refl zs)]; exact decide_eq_true (Eq.refl _)
  · rw [decide_eq_false h]
    exact decide_eq_false fun q => h (mkS_inj (V.str.inj q))
theorem dec_blank (zs : List Nat) (z : Str) (h : z = mkS (List.replicate zs.length 32)) : decide (V.str (mkS zs) = V.str z) = blankN zs := by
  rw [h, dec_text]; rfl
def evT (n : Nat) (zs : Rw) (i : Nat) : Rw := ((List.range zs.length).take i).map fun x => if evB n (evS n zs x) (zs.getD x 0) = true then 35 else zs.getD x 0
theorem ok_even (T : Txt K mg) : FnOk P w K mg base CX0 1 T.a_even_row T.d_even_row ["row", "measure"] (spRowN evenN) := by
  refine T.D_even_row.F.ok sc_even_row (fun vs H Q E h => ?_) (fun cdv A outer s H vs Q E hr h => ?_)
  · obtain ⟨zs, n, rfl, _⟩ := h
    rfl
  · obtain ⟨zs, n, rfl, hz, n1, hn, q⟩ := h
    refine ⟨_, (pss_cons (ps_set (i := 2) sc_even_row.nd rfl (.inl rfl) (pe_lst pa_nil))
      (pss_cons (ps_set (i := 3) sc_even_row.nd rfl (.inl rfl) pe_int)
      (pss_cons (ps_for PassesOwn.never rfl (pi_str (pv 0)) (pg_name (i := 4) sc_even_row.nd rfl (.inl rfl)) (pss_one (ps_if (PW.pt (pw_or (pt_cmpR op_eq (pv 4) (pe_glob (v := .str "#") (by rfl) T.m_COVER ⟨_, rfl⟩) (nomark _)) (pw_or1 (PW.pt (pw_and (pt_cmpR op_gt (pv 3) pe_int (nomark _)) (pw_and1 (pt_cmpR op_lt (pv 3) (pv 1) (nomark _)))))))) (pss_cons (ps_set (i := 3) sc_even_row.nd rfl (.inl rfl) (pe_ifExp (pt_cmpR op_lt (pv 3) (pv 1) (nomark _)) (pe_op op_add (pv 3) pe_int) pe_int))
      (pss_one (ps_expr (pe_bm PySem.F.plainAttrs_list PySem.F.slot_list_append PySem.F.type_list_append mt_append (pv 2) (pa_cons (pe_glob (v := .str "#") (by rfl) T.m_COVER ⟨_, rfl⟩) pa_nil))))) (pss_cons (ps_set (i := 3) sc_even_row.nd rfl (.inl rfl) pe_int)
      (pss_one (ps_expr (pe_bm PySem.F.plainAttrs_list PySem.F.slot_list_append PySem.F.type_list_append mt_append (pv 2) (pa_cons (pv 4) pa_nil))))))))
      (pss_one (ps_ret (pe_join pe_str (pv 2))))))), ?_⟩
    refine ⟨Nat.zero_le _, fun D nD => ?_⟩
    refine ⟨_, rfl, mkS zs, rfl, ?_⟩
    refine for_it walk_str (fun i σ' H' => ∃ x4 : Option V, σ' = [some (sV zs), some (nV n), some (.ref D), some (nV (evS n zs i)), x4] ∧ Same H H' ∧ H' D = some (.lst ((evT n zs i).map fun c => sV [c]))) ⟨none, rfl, same_upd (Same.refl H) nD, upd_same⟩ (fun _ _ _ _ _ => trivial) ?_ ?_
    · rintro i x σ1 H1 H2 hi ⟨x4, rfl, k1, eD⟩ ⟨rfl, c, hc, rfl⟩
      have hi : i < zs.length := hi
      have hc : zs[i]? = some c := by rw [← mkS_get]; exact hc
      have ec : zs.getD i 0 = c := getD_of hc
      have es := evS_succ (n := n) hi
      have el := ev_le n1
      have rT : evT n zs (i + 1) = evT n zs i ++ [if evB n (evS n zs i) c = true then 35 else c] := by
        unfold evT
        rw [range_take hi, List.map_append, ← ec]; rfl
      have lT : (evT n zs i).length ≤ 1000 := by unfold evT; rw [List.length_map, List.length_take, List.length_range]; omega
      rw [ec] at es
      unfold evStep at es
      have yes : evB n (evS n zs i) c = true → evS n zs (i + 1) = (if evS n zs i < n then evS n zs i + 1 else 1) := fun h => by rw [es, if_pos h]
      generalize evS n zs i = r at es rT yes
      have ac : ∀ (b : Nat) (x3 : V) (x4 : Option V), x3 = nV (evS n zs (i + 1)) → b = (if evB n r c = true then 35 else c) → ∃ x4' : Option V, [some (sV zs), some (nV n), some (.ref D), some x3, x4] = [some (sV zs), some (nV n), some (.ref D), some (nV (evS n zs (i + 1))), x4'] ∧ Same H (upd H2 D (.lst ((evT n zs i).map (fun c => sV [c]) ++ [sV [b]]))) ∧ upd H2 D (.lst ((evT n zs i).map (fun c => sV [c]) ++ [sV [b]])) D = some (.lst ((evT n zs (i + 1)).map fun c => sV [c])) := fun b x3 x4 h3 hb => by
        refine ⟨x4, by rw [h3], same_mut k1 nD, ?_⟩
        rw [rT, List.map_append, ← hb]
        exact upd_same
      have ln : ((evT n zs i).map fun c => sV [c]).length < sizeLine := szN (by rw [List.length_map]; omega)
      have ac35 := ac 35
      rw [show (sV [35] : V) = V.str ("#" : Str) from by rw [hash_mk]; rfl] at ac35
      by_cases h35 : c = 35
      · have hev : evB n r c = true := by unfold evB; rw [decide_eq_true h35, Bool.true_or]
        refine ⟨_, rfl, rfl, true, congrArg V.bl ((dec_sign c _ 35 hash_mk).trans (decide_eq_true h35)), ?_⟩
        refine ⟨_, rfl, _, rfl, _, _, rfl, rfl, _, rfl, ?_⟩
        by_cases hrn : r < n
        · rw [decide_eq_true (show ((r : Nat) : Int) < ((n : Nat) : Int) by omega)]
          have e := yes hev
          rw [if_pos hrn] at e
          exact ⟨_, rfl, _, _, rfl, rfl, _, rfl, .inl ⟨rfl, _, SqL.of eD⟩, D, _, _, rfl, rfl, eD, ln, ac35 _ _ (by rw [e]; rfl) (by rw [if_pos hev])⟩
        · rw [decide_eq_false (show ¬ ((r : Nat) : Int) < ((n : Nat) : Int) by omega)]
          have e := yes hev
          rw [if_neg hrn] at e
          exact ⟨_, rfl, .inl ⟨rfl, _, SqL.of eD⟩, D, _, _, rfl, rfl, eD, ln, ac35 _ _ (by rw [e]; rfl) (by rw [if_pos hev])⟩
      · refine ⟨_, rfl, rfl, false, congrArg V.bl ((dec_sign c _ 35 hash_mk).trans (decide_eq_false h35)), ?_⟩
        by_cases hr : 0 < r
        · refine ⟨_, rfl, _, _, rfl, rfl, true, bl_of (decide_eq_true (show (0 : Int) < ((r : Nat) : Int) by omega)), ?_⟩
          by_cases hrn : r < n
          · have hev : evB n r c = true := by unfold evB; rw [decide_eq_true hr, decide_eq_true hrn]; simp
            have e := yes hev
            rw [if_pos hrn] at e
            refine ⟨_, rfl, _, rfl, _, _, rfl, rfl, true, bl_of (decide_eq_true (show ((r : Nat) : Int) < ((n : Nat) : Int) by omega)), ?_⟩
            refine ⟨_, rfl, _, rfl, _, _, rfl, rfl, true, bl_of (decide_eq_true (show ((r : Nat) : Int) < ((n : Nat) : Int) by omega)), ?_⟩
            exact ⟨_, rfl, _, _, rfl, rfl, _, rfl, .inl ⟨rfl, _, SqL.of eD⟩, D, _, _, rfl, rfl, eD, ln, ac35 _ _ (by rw [e]; rfl) (by rw [if_pos hev])⟩
          · have hev : evB n r c = false := by unfold evB; rw [decide_eq_false h35, decide_eq_false hrn]; simp
            rw [if_neg (by rw [hev]; decide)] at es
            have ac2 := ac c
            refine ⟨_, rfl, _, rfl, _, _, rfl, rfl, false, bl_of (decide_eq_false (show ¬ ((r : Nat) : Int) < ((n : Nat) : Int) by omega)), ?_⟩
            exact ⟨_, rfl, .inl ⟨rfl, _, SqL.of eD⟩, _, rfl, D, _, _, rfl, rfl, eD, ln, ac2 _ _ (by rw [es]; rfl) (by rw [if_neg (by rw [hev]; decide)])⟩
        · have hev : evB n r c = false := by unfold evB; rw [decide_eq_false h35, decide_eq_false hr]; simp
          rw [if_neg (by rw [hev]; decide)] at es
          have ac2 := ac c
          refine ⟨_, rfl, _, _, rfl, rfl, false, bl_of (decide_eq_false (show ¬ (0 : Int) < ((r : Nat) : Int) by omega)), ?_⟩
          exact ⟨_, rfl, .inl ⟨rfl, _, SqL.of eD⟩, _, rfl, D, _, _, rfl, rfl, eD, ln, ac2 _ _ (by rw [es]; rfl) (by rw [if_neg (by rw [hev]; decide)])⟩
    · rintro σ1 H1 ⟨x4, rfl, k1, eD⟩
      have eT : evT n zs zs.length = evenN n zs := by
        unfold evT evenN
        rw [List.take_of_length_le (by rw [List.length_range]; exact Nat.le_refl _)]
      have eD : H1 D = some (.lst ((evenN n zs).map fun c => sV [c])) := by rw [← eT]; exact eD
      refine ⟨⟨_, rfl⟩, _, rfl, _, D, ((evenN n zs).map fun c => [c]).map mkS, rfl, rfl, .inl (SqL.of (by rw [eD, sgs_V])), sgs_sz (by unfold evenN; rw [List.length_map, List.length_range]; exact hz), ?_⟩
      rw [join_sgs]
      exact q _ k1
end
end Vf

set_option Elab.async false
set_option linter.all false
set_option maxRecDepth 100000
set_option maxHeartbeats 4000000
namespace Vf
open PySem PySem.Spec PyProof.Rows L2 TL
theorem blkS_at {l : Pg} {i : Nat} {r : Rw} (h : l[i]? = some r) : blkS (l.take (i + 1)) = blkF (blkS (l.take i)) r := by rw [take_one h, blkS_snoc]
theorem blkS_len (l : Pg) : (blkS l).1.length + (blkS l).2.length = l.length := (b_inv l).len
theorem blkS_rows {l : Pg} {b : Nat} (h : ∀ r ∈ l, r.length ≤ b) : ∀ r ∈ (blkS l).2, r.length ≤ b := by
  intro r hr
  obtain ⟨k, hk, e⟩ := mem_at hr
  have e3 := (b_inv l).run k hk
  have hl := (b_inv l).len
  rw [getD_of e] at e3
  rw [e3]
  exact h _ (getD_mem (by omega))
section
variable {P : Program} {w : World} {K : PySem.W.Frag} {mg : Str → Option Value} {base : Heap}
def spBlock : Sp := fun vs H Q _ => ∃ (a : Addr) (p : Pg), vs = [.ref a] ∧ H a = some (.lst (p.map sV)) ∧ PgOk p ∧ ∀ H' b, Same H H' → H' b = some (.lst ((blockN p).map sV)) → Q (.ref b) H'
theorem ok_block (T : Txt K mg) : FnOk P w K mg base CX0 2 T.a_block T.d_block ["rows"] spBlock := by
  have G_whole : FnOk P w K mg base CX0 1 T.a_whole T.d_whole ["row"] spWhole := ok_whole T
  have G_has_cover : FnOk P w K mg base CX0 1 T.a_has_cover T.d_has_cover ["page"] spHasC := ok_hasC T
  refine T.D_block.F.ok sc_block (fun vs H Q E h => ?_) (fun cdv A outer s H vs Q E hr h => ?_)
  · obtain ⟨a, p, rfl, _⟩ := h
    rfl
  · obtain ⟨a, p, rfl, ea, ⟨hl, hok⟩, q⟩ := h
    refine ⟨_, (pss_one (ps_ret (pe_ifExp (pt_val (pe_call G_has_cover (hr.mono (by decide)) (by rfl) T.D_has_cover.G T.D_has_cover.F.kp T.D_has_cover.B .nil pass0 (pa_cons (pv 0) pa_nil))) (pe_lc (own := [("row", 1)]) (g := gName 1) (tt := tYes) rfl sc_block.nd (pi_list (pv 0)) (blkOk_by (own := [("row", 1)]) (N := ["rows", "row"]) (sc := (defScope s_block)) (by decide +kernel)) (fun _ _ _ _ _ => (pg_name (i := 1) sc_block.nd rfl (.inl rfl))) (fun _ _ _ _ _ => pts_nil) (fun _ _ _ _ _ => (pe_call G_whole (hr.mono (by decide)) (by rfl) T.D_whole.G T.D_whole.F.kp T.D_whole.B .nil pass0 (pa_cons (pv 1) pa_nil)))) (pv 0)))), ?_⟩
    refine ⟨_, rfl, a, p, rfl, .inr ea, hl, fun H1 k1 => ⟨_, rfl, ?_⟩⟩
    have ea1 := k1 _ _ ea
    by_cases hc : p.any hasC = true
    · rw [hc]
      refine ⟨_, rfl, a, rfl, ⟨_, SqL.of ea1⟩, fun D nD => ?_⟩
      refine lc_it (walk_list (K := K) (a := a) (xs := p.map sV)) (fun i H' => H' D = some (.lst (((p.take i).map wholeN).map sV)) ∧ Same H1 H') ⟨upd_same, same_upd (Same.refl H1) nD⟩ ?_ ?_ ?_
      · rintro i H' _ ⟨_, k⟩
        exact SqL.of (k _ _ ea1)
      · rintro i x H2 H3 hi ⟨eD, k2⟩ ⟨rfl, hx⟩
        rw [List.length_map] at hi
        rw [List.getElem?_map, List.getElem?_eq_getElem hi] at hx
        have hx := (Option.some.inj hx).symm
        subst hx
        refine ⟨rfl, ?_⟩
        have hz := hok _ (List.getElem_mem hi)
        refine ⟨_, rfl, p[i], rfl, by omega, _, eD, szN (by rw [List.length_map, List.length_map, List.length_take]; omega), ?_, same_mut k2 nD⟩
        rw [take_one (List.getElem?_eq_getElem hi), List.map_append, List.map_append]
        exact upd_same
      · rintro H2 ⟨eD, k2⟩
        rw [List.length_map, List.take_length] at eD
        exact q _ D (k1.trans k2) (by unfold blockN; rw [if_pos hc]; exact eD)
    · rw [Bool.eq_false_iff.mpr hc]
      exact ⟨_, rfl, q _ a k1 (by unfold blockN; rw [if_neg hc]; exact ea1)⟩
def spBlocksP : Sp := fun vs H Q _ => ∃ (v : V) (p : Pg), vs = [v] ∧ PgR H v p ∧ PgOk p ∧ ∀ H' u, Same H H' → PgR H' u (blocksN p) → Q u H'
theorem ok_blocksP (T : Txt K mg) : FnOk P w K mg base CX0 3 T.a_blocks_page T.d_blocks_page ["page"] spBlocksP := by
  have G_block : FnOk P w K mg base CX0 2 T.a_block T.d_block ["rows"] spBlock := ok_block T
  refine T.D_blocks_page.F.ok sc_blocks_page (fun vs H Q E h => ?_) (fun cdv A outer s H vs Q E hr h => ?_)
  · obtain ⟨v, p, rfl, _⟩ := h
    rfl
  · obtain ⟨v, p, rfl, hp, ⟨hl, hok⟩, q⟩ := h
    obtain ⟨a, rfl, ea⟩ := PgR.iff.mp hp
    refine ⟨_, (pss_cons (ps_set (i := 1) sc_blocks_page.nd rfl (.inl rfl) (pe_lst pa_nil))
      (pss_cons (ps_set (i := 2) sc_blocks_page.nd rfl (.inl rfl) (pe_lst pa_nil))
      (pss_cons (ps_for PassesOwn.never rfl (pi_tup (pv 0)) (pg_name (i := 3) sc_blocks_page.nd rfl (.inl rfl)) (pss_one (ps_if (pt_cmpR op_eq (pv 3) (pe_op op_mul_str (pe_glob (v := .str " ") (by rfl) T.m_BLANK ⟨_, rfl⟩) (pe_callB call_len_str (by rfl) T.n_len PySem.boot_len (pa_cons (pv 3) pa_nil))) (nomark _)) (pss_cons (ps_expr (pe_bm PySem.F.plainAttrs_list PySem.F.slot_list_extend PySem.F.type_list_extend mt_extend (pv 1) (pa_cons (pe_op op_cat (pe_call G_block (hr.mono (by decide)) (by rfl) T.D_block.G T.D_block.F.kp T.D_block.B .nil pass0 (pa_cons (pv 2) pa_nil)) (pe_lst (pa_cons (pv 3) pa_nil))) pa_nil)))
      (pss_one (ps_set (i := 2) sc_blocks_page.nd rfl (.inl rfl) (pe_lst pa_nil)))) (pss_one (ps_expr (pe_bm PySem.F.plainAttrs_list PySem.F.slot_list_append PySem.F.type_list_append mt_append (pv 2) (pa_cons (pv 3) pa_nil)))))))
      (pss_one (ps_ret (pe_callTy call_tuple_of (by rfl) T.n_tuple (by decide +kernel) (pa_cons (pe_op op_cat (pv 1) (pe_call G_block (hr.mono (by decide)) (by rfl) T.D_block.G T.D_block.F.kp T.D_block.B .nil pass0 (pa_cons (pv 2) pa_nil))) pa_nil))))))), ?_⟩
    refine ⟨Nat.zero_le _, fun R nR => ⟨Nat.zero_le _, fun U nU => ?_⟩⟩
    have nRU : R ≠ U := fun z => by rw [z, upd_same] at nU; cases nU
    have nU0 : H U = none := by rw [← nU, upd_ne (Ne.symm nRU)]
    refine ⟨_, rfl, a, rfl, ⟨_, SqT.of (by rw [upd_ne (ne_of_none (H := upd H R (.lst [])) (by rw [upd_ne (ne_of_none ea nR)]; exact ea) nU), upd_ne (ne_of_none ea nR)]; exact ea)⟩, ?_⟩
    refine for_it (walk_tup (K := K) (a := a) (xs := p.map sV)) (fun i σ' H' => ∃ (U' : Addr) (x3 : Option V), σ' = [some (.ref a), some (.ref R), some (.ref U'), x3] ∧ Same H H' ∧ R ≠ U' ∧ H U' = none ∧ H' R = some (.lst ((blkS (p.take i)).1.map sV)) ∧ H' U' = some (.lst ((blkS (p.take i)).2.map sV)))
      ⟨U, none, rfl, same_upd (same_upd (Same.refl H) nR) nU, nRU, nU0, by rw [upd_ne nRU]; exact upd_same, upd_same⟩ ?_ ?_ ?_
    · rintro i σ1 H1 _ ⟨_, _, _, k, _⟩
      exact SqT.of (k _ _ ea)
    · rintro i x σ1 H1 H2 hi ⟨U', x3, rfl, k1, nRU, nU0, eR, eU⟩ ⟨rfl, hx⟩
      rw [List.length_map] at hi
      have hr : p[i]? = some p[i] := List.getElem?_eq_getElem hi
      rw [List.getElem?_map, hr] at hx
      have hx := (Option.some.inj hx).symm
      subst hx
      have es := blkS_at hr
      have hz := hok _ (List.getElem_mem hi)
      have bl := blkS_len (p.take i)
      rw [List.length_take] at bl
      have br := blkS_rows (b := 200) (l := p.take i) fun r h => hok r (List.mem_of_mem_take h)
      generalize p[i] = r at hr es hz
      refine ⟨_, rfl, _, rfl, mkS r, rfl, by rw [mkS_len]; exact big_ok (by omega), _, _, rfl, rfl, by rw [mkS_len]; exact mul_okN (by omega) (by decide), rfl, blankN r, by rw [blank_mk, mkS_len, mul_sign]; exact congrArg V.bl (dec_blank r _ rfl), ?_⟩
      rw [es]
      unfold blkF
      by_cases hb : blankN r = true
      · rw [hb]
        refine ⟨_, rfl, .inl ⟨rfl, _, SqL.of eR⟩, _, rfl, U', _, rfl, eU, ⟨by omega, br⟩, fun H3 b k3 eb => ?_⟩
        refine ⟨_, rfl, big_ok (by show 1 ≤ _; omega), fun p1 np1 => ?_⟩
        have k4 := same_upd (o := .lst [sV r]) k3 np1
        have eb4 : upd H3 p1 (.lst [sV r]) b = _ := (upd_ne (ne_of_none eb np1)).trans eb
        have ep4 : upd H3 p1 (.lst [sV r]) p1 = _ := upd_same
        generalize upd H3 p1 (.lst [sV r]) = H4 at k4 eb4 ep4
        refine ⟨b, p1, _, _, rfl, rfl, eb4, ep4, Nat.le_of_lt (szN (by rw [List.length_map, block_len]; show _ + 1 < _; omega)), fun p2 np2 => ?_⟩
        rw [show (blockN (blkS (p.take i)).2).map sV ++ [sV r] = (blockN (blkS (p.take i)).2 ++ [r]).map sV from by rw [List.map_append]; rfl]
        have k5 := same_upd (o := .lst ((blockN (blkS (p.take i)).2 ++ [r]).map sV)) k4 np2
        have e5 : upd H4 p2 (.lst ((blockN (blkS (p.take i)).2 ++ [r]).map sV)) p2 = _ := upd_same
        generalize upd H4 p2 (.lst ((blockN (blkS (p.take i)).2 ++ [r]).map sV)) = H5 at k5 e5
        refine ⟨R, p2, _, _, rfl, rfl, k5 _ _ eR, e5, Nat.le_of_lt (szN (by rw [List.length_map, List.length_map, List.length_append, block_len]; show _ + (_ + 1) < _; omega)), ?_⟩
        rw [← List.map_append]
        have k6 := same_mut (o := .lst (((blkS (p.take i)).1 ++ (blockN (blkS (p.take i)).2 ++ [r])).map sV)) (k1.trans k5) nR
        have e6 : upd H5 R (.lst (((blkS (p.take i)).1 ++ (blockN (blkS (p.take i)).2 ++ [r])).map sV)) R = _ := upd_same
        generalize upd H5 R (.lst (((blkS (p.take i)).1 ++ (blockN (blkS (p.take i)).2 ++ [r])).map sV)) = H6 at k6 e6
        refine ⟨Nat.zero_le _, fun U2 nU2 => ?_⟩
        have nRU2 : R ≠ U2 := ne_of_none e6 nU2
        have nU20 : H U2 = none := by
          cases z : H U2 with
          | none => rfl
          | some o => rw [k6 _ _ z] at nU2; cases nU2
        exact ⟨U2, _, rfl, same_upd k6 nU2, nRU2, nU20, by rw [upd_ne nRU2, e6, if_pos rfl], by rw [upd_same, if_pos rfl]; rfl⟩
      · have hb := Bool.eq_false_iff.mpr hb
        rw [hb]
        refine ⟨_, rfl, .inl ⟨rfl, _, SqL.of eU⟩, _, rfl, U', _, _, rfl, rfl, eU, szN (by rw [List.length_map]; omega), ?_⟩
        exact ⟨U', _, rfl, same_mut k1 nU0, nRU, nU0, by rw [upd_ne nRU, eR, if_neg Bool.false_ne_true], by rw [upd_same, if_neg Bool.false_ne_true, List.map_append]; rfl⟩
    · rintro σ1 H1 ⟨U', x3, rfl, k1, nRU, nU0, eR, eU⟩
      rw [List.length_map, List.take_length] at eR eU
      have bl := blkS_len p
      refine ⟨_, rfl, _, rfl, U', _, rfl, eU, ⟨by omega, blkS_rows hok⟩, fun H3 b k3 eb => ?_⟩
      refine ⟨R, b, _, _, rfl, rfl, k3 _ _ eR, eb, Nat.le_of_lt (szN (by rw [List.length_map, List.length_map, block_len]; omega)), fun p2 np2 => ?_⟩
      rw [← List.map_append]
      have k4 := same_upd (o := .lst (((blkS p).1 ++ blockN (blkS p).2).map sV)) (k1.trans k3) np2
      have e4 : upd H3 p2 (.lst (((blkS p).1 ++ blockN (blkS p).2).map sV)) p2 = _ := upd_same
      generalize upd H3 p2 (.lst (((blkS p).1 ++ blockN (blkS p).2).map sV)) = H4 at k4 e4
      refine ⟨p2, _, rfl, .inl ⟨SqL.of e4, fun r nr => ?_⟩⟩
      exact q _ _ (same_upd k4 nr) (PgR.iff.mpr ⟨r, rfl, upd_same⟩)
end
end Vf

set_option Elab.async false
set_option linter.all false
set_option maxRecDepth 100000
set_option maxHeartbeats 4000000
namespace Vf
open PySem PySem.Spec PyProof.Rows L2 TL
theorem any_take {α : Type} {l : List α} {f : α → Bool} {i : Nat} {x : α} (h : l[i]? = some x) : (l.take (i + 1)).any f = ((l.take i).any f || f x) := by
  rw [take_one h, List.any_append]; simp
theorem lk_ok {l : List Pg} (h : LkOk l) {i : Nat} {p : Pg} (e : l[i]? = some p) : PgOk p := h.2 p (List.mem_of_getElem? e)
section
variable {P : Program} {w : World} {K : PySem.W.Frag} {mg : Str → Option Value} {base : Heap}
def spBelow : Sp := fun vs H Q _ => ∃ (v : V) (l : List Pg), vs = [v] ∧ LkR H v l ∧ LkOk l ∧ ∀ H' u, Same H H' → LkR H' u (belowN l) → Q u H'
theorem ok_below (T : Txt K mg) : FnOk P w K mg base CX0 2 T.a_below T.d_below ["look"] spBelow := by
  have G_whole : FnOk P w K mg base CX0 1 T.a_whole T.d_whole ["row"] spWhole := ok_whole T
  refine T.D_below.F.ok sc_below (fun vs H Q E h => ?_) (fun cdv A outer s H vs Q E hr h => ?_)
  · obtain ⟨v, l, rfl, _⟩ := h
    rfl
  · obtain ⟨v, l, rfl, ⟨a, us, rfl, ea, lv⟩, hok, q⟩ := h
    refine ⟨_, (pss_cons (ps_set (i := 1) sc_below.nd rfl (.inl rfl) (pe_lst pa_nil))
      (pss_cons (ps_set (i := 2) sc_below.nd rfl (.inl rfl) pe_bl)
      (pss_cons (ps_for PassesOwn.never rfl (pi_tup (pv 0)) (pg_name (i := 3) sc_below.nd rfl (.inl rfl)) (pss_cons (ps_set (i := 4) sc_below.nd rfl (.inl rfl) (pe_lst pa_nil))
      (pss_cons (ps_for PassesOwn.never rfl (pi_tup (pv 3)) (pg_name (i := 5) sc_below.nd rfl (.inl rfl)) (pss_cons (ps_set (i := 2) sc_below.nd rfl (.inl rfl) (pe_or (pv 2) (pe_one (pe_cmpR op_in_sign (pe_glob (v := .str "#") (by rfl) T.m_COVER ⟨_, rfl⟩) (pv 5) (by rfl)))))
      (pss_one (ps_expr (pe_bm PySem.F.plainAttrs_list PySem.F.slot_list_append PySem.F.type_list_append mt_append (pv 4) (pa_cons (pe_ifExp (pt_val (pv 2)) (pe_call G_whole (hr.mono (by decide)) (by rfl) T.D_whole.G T.D_whole.F.kp T.D_whole.B .nil pass0 (pa_cons (pv 5) pa_nil)) (pv 5)) pa_nil))))))
      (pss_one (ps_expr (pe_bm PySem.F.plainAttrs_list PySem.F.slot_list_append PySem.F.type_list_append mt_append (pv 1) (pa_cons (pe_callTy call_tuple_of (by rfl) T.n_tuple (by decide +kernel) (pa_cons (pv 4) pa_nil)) pa_nil)))))))
      (pss_one (ps_ret (pe_callTy call_tuple_of (by rfl) T.n_tuple (by decide +kernel) (pa_cons (pv 1) pa_nil))))))), ?_⟩
    refine ⟨Nat.zero_le _, fun R nR => ?_⟩
    have k0 := same_upd (o := .lst []) (Same.refl H) nR
    have eR0 : upd H R (.lst []) R = some (.lst []) := upd_same
    generalize upd H R (.lst []) = H0 at k0 eR0
    refine ⟨_, rfl, a, rfl, ⟨_, SqT.of (k0 _ _ ea)⟩, ?_⟩
    refine for_it (walk_tup (K := K) (a := a) (xs := us)) (fun i σ' H' => ∃ (x3 x4 x5 : Option V) (zs : List V), σ' = [some (.ref a), some (.ref R), some (.bl ((l.take i).any pgC)), x3, x4, x5] ∧ Same H H' ∧ H' R = some (.lst zs) ∧ LV (PgR H') zs ((belowN l).take i))
      ⟨none, none, none, [], rfl, k0, eR0, LV.nil⟩ ?_ ?_ ?_
    · rintro i σ1 H1 _ ⟨_, _, _, _, _, k, _⟩
      exact SqT.of (k _ _ ea)
    · rintro i x σ1 H1 H2 hi ⟨x3, x4, x5, zs, rfl, k1, eR, lz⟩ ⟨rfl, hx⟩
      obtain ⟨pg, epg, hpg⟩ := lv.at hx
      obtain ⟨b, rfl, eb⟩ := PgR.iff.mp hpg
      have pok := lk_ok hok epg
      have il : i < l.length := (List.getElem?_eq_some_iff.mp epg).1
      have l200 := hok.1
      have ed : l.getD i [] = pg := getD_of epg
      have at1 := any_take (f := pgC) epg
      have eB : (belowN l)[i]? = some ((List.range pg.length).map (rowBel l i)) := by unfold belowN; rw [List.getElem?_map, List.getElem?_range il]; show some ((List.range (l.getD i []).length).map (rowBel l i)) = _; rw [ed]
      refine ⟨Nat.zero_le _, fun S nS => ?_⟩
      have nS0 : H S = none := by
        cases z : H S with
        | none => rfl
        | some o => rw [k1 _ _ z] at nS; cases nS
      have k2 := same_upd (o := .lst []) k1 nS
      have eS2 : upd H2 S (.lst []) S = some (.lst []) := upd_same
      have nRS : R ≠ S := ne_of_none eR nS
      have eR2 : upd H2 S (.lst []) R = some (.lst zs) := (upd_ne nRS).trans eR
      have lz2 : LV (PgR (upd H2 S (.lst []))) zs ((belowN l).take i) := lz.mono fun _ _ z => PgR.mn.to z (TK.new (TK.refl _) nS)
      generalize upd H2 S (.lst []) = H3 at k2 eS2 eR2 lz2
      refine ⟨_, rfl, b, rfl, ⟨_, SqT.of (k2 _ _ eb)⟩, ?_⟩
      refine for_it (walk_tup (K := K) (a := b) (xs := pg.map sV)) (fun j σ' H' => ∃ (x5 : Option V), σ' = [some (.ref a), some (.ref R), some (.bl ((l.take i).any pgC || (pg.take j).any hasC)), some (.ref b), some (.ref S), x5] ∧ Same H H' ∧ H' R = some (.lst zs) ∧ LV (PgR H') zs ((belowN l).take i) ∧ H' S = some (.lst (((List.range j).map (rowBel l i)).map sV)))
        ⟨x5, by rw [List.take_zero]; show _ = [_, _, some (V.bl ((l.take i).any pgC || false)), _, _, _]; rw [Bool.or_false]; rfl, k2, eR2, lz2, eS2⟩ ?_ ?_ ?_
      · rintro j σ1 H1 _ ⟨_, _, k, _⟩
        exact SqT.of (k _ _ eb)
      · rintro j y σ2 H4 H5 hj ⟨x5, rfl, k4, eR4, lz4, eS4⟩ ⟨rfl, hy⟩
        rw [List.length_map] at hj
        have hr : pg[j]? = some pg[j] := List.getElem?_eq_getElem hj
        rw [List.getElem?_map, hr] at hy
        have hy := (Option.some.inj hy).symm
        subst hy
        have at2 := any_take (f := hasC) hr
        have hz := pok.2 _ (List.getElem_mem hj)
        have p200 := pok.1
        have rb : rowBel l i j = if ((l.take i).any pgC || (pg.take (j + 1)).any hasC) = true then wholeN pg[j] else pg[j] := by
          unfold rowBel bgB
          rw [ed, getD_of hr]
        rw [at2] at rb ⊢
        generalize pg[j] = r at hr hz rb
        generalize (l.take i).any pgC = g1 at rb
        generalize (pg.take j).any hasC = g2 at rb
        have ln : (((List.range j).map (rowBel l i)).map sV).length < sizeLine := szN (by rw [List.length_map, List.length_map, List.length_range]; omega)
        have fin : ∀ (u : V) (bg : Bool), bg = (g1 || (g2 || hasC r)) → u = sV (rowBel l i j) → ∃ (x5 : Option V), [some (.ref a), some (.ref R), some (.bl bg), some (.ref b), some (.ref S), some (sV r)] = [some (.ref a), some (.ref R), some (.bl (g1 || (g2 || hasC r))), some (.ref b), some (.ref S), x5] ∧ Same H (upd H5 S (.lst (((List.range j).map (rowBel l i)).map sV ++ [u]))) ∧ upd H5 S (.lst (((List.range j).map (rowBel l i)).map sV ++ [u])) R = some (.lst zs) ∧ LV (PgR (upd H5 S (.lst (((List.range j).map (rowBel l i)).map sV ++ [u])))) zs ((belowN l).take i) ∧ upd H5 S (.lst (((List.range j).map (rowBel l i)).map sV ++ [u])) S = some (.lst (((List.range (j + 1)).map (rowBel l i)).map sV)) := fun u bg e1 e2 => by
          subst e1 e2
          refine ⟨_, rfl, same_mut k4 nS0, (upd_ne nRS).trans eR4, lz4.mono fun _ _ z => PgR.mn.to z (TK.mut (TK.refl _) eS4), ?_⟩
          rw [List.range_succ, List.map_append, List.map_append]
          exact upd_same
        refine ⟨_, rfl, (g1 || g2), rfl, ?_⟩
        have tail : ∀ bg : Bool, bg = (g1 || (g2 || hasC r)) → rowBel l i j = (if bg = true then wholeN r else r) := fun bg e => by rw [rb, e]
        by_cases hg : (g1 || g2) = true
        · rw [if_pos hg]
          have e : true = (g1 || (g2 || hasC r)) := by rw [← Bool.or_assoc, hg, Bool.true_or]
          refine ⟨_, rfl, .inl ⟨rfl, _, SqL.of eS4⟩, _, rfl, _, rfl, ?_⟩
          exact ⟨_, rfl, r, rfl, by omega, S, _, _, rfl, rfl, eS4, ln, fin _ _ e (by rw [tail _ e]; rfl)⟩
        · rw [if_neg hg]
          have hg := Bool.eq_false_iff.mpr hg
          have e : hasC r = (g1 || (g2 || hasC r)) := by rw [← Bool.or_assoc, hg, Bool.false_or]
          refine ⟨_, rfl, 35, mkS r, by rw [hash_mk]; rfl, rfl, ?_⟩
          rw [in_hash]
          refine ⟨_, rfl, .inl ⟨rfl, _, SqL.of eS4⟩, _, rfl, _, rfl, ?_⟩
          have tl := tail _ e
          have fin := fin (sV (rowBel l i j)) _ e rfl
          generalize hasC r = hc at tl fin
          cases hc with
          | true => exact ⟨_, rfl, r, rfl, by omega, S, _, _, rfl, rfl, eS4, ln, by rw [tl] at fin; exact fin⟩
          | false => exact ⟨_, rfl, S, _, _, rfl, rfl, eS4, ln, by rw [tl] at fin; exact fin⟩
      · rintro σ2 H4 ⟨x5, rfl, k4, eR4, lz4, eS4⟩
        rw [List.length_map, List.take_length]
        rw [List.length_map] at eS4
        refine ⟨_, rfl, .inl ⟨rfl, _, SqL.of eR4⟩, _, rfl, S, _, rfl, .inl ⟨SqL.of eS4, fun p np => ?_⟩⟩
        have k5 := same_upd (o := .tup (((List.range pg.length).map (rowBel l i)).map sV)) k4 np
        have eR5 : upd H4 p (.tup (((List.range pg.length).map (rowBel l i)).map sV)) R = _ := (upd_ne (ne_of_none eR4 np)).trans eR4
        have lz5 : LV (PgR (upd H4 p (.tup (((List.range pg.length).map (rowBel l i)).map sV)))) zs ((belowN l).take i) := lz4.mono fun _ _ z => PgR.mn.to z (TK.new (TK.refl _) np)
        have ep5 : PgR (upd H4 p (.tup (((List.range pg.length).map (rowBel l i)).map sV))) (.ref p) ((List.range pg.length).map (rowBel l i)) := PgR.iff.mpr ⟨p, rfl, upd_same⟩
        generalize upd H4 p (.tup (((List.range pg.length).map (rowBel l i)).map sV)) = H5 at k5 eR5 lz5 ep5
        have zl := lz5.1
        rw [List.length_take] at zl
        refine ⟨R, _, _, rfl, rfl, eR5, szN (by omega), ?_⟩
        have tm : TK H5 (upd H5 R (.lst (zs ++ [.ref p]))) := TK.mut (TK.refl _) eR5
        refine ⟨_, _, _, _, by rw [at1]; rfl, same_mut k5 nR, upd_same, ?_⟩
        rw [take_one eB]
        exact (lz5.snoc ep5).mono fun _ _ z => PgR.mn.to z tm
    · rintro σ1 H1 ⟨x3, x4, x5, zs, rfl, k1, eR, lz⟩
      have lbl : (belowN l).length = l.length := by unfold belowN; rw [List.length_map, List.length_range]
      rw [lv.1, ← lbl, List.take_length] at lz
      refine ⟨_, rfl, R, _, rfl, .inl ⟨SqL.of eR, fun p np => ?_⟩⟩
      exact q _ _ (same_upd k1 np) ⟨p, zs, rfl, upd_same, lz.mono fun _ _ z => PgR.mn.to z (TK.new (TK.refl _) np)⟩
end
end Vf

set_option Elab.async false
set_option linter.all false
set_option maxRecDepth 100000
set_option maxHeartbeats 4000000
namespace Vf
open PySem PySem.Spec PyProof.Rows L2 TL
theorem LV.takeN {α : Type} {R : V → α → Prop} {vs : List V} {rs : List α} (n : Nat) (h : LV R vs rs) : LV R (vs.take n) (rs.take n) := by
  refine ⟨by rw [List.length_take, List.length_take, h.1], fun i r e => ?_⟩
  rw [List.getElem?_take] at e
  by_cases c : i < n
  · rw [if_pos c] at e
    obtain ⟨x, e1, e2⟩ := h.2 i r e
    exact ⟨x, by rw [List.getElem?_take, if_pos c]; exact e1, e2⟩
  · rw [if_neg c] at e; cases e
theorem slA_any {K : PySem.W.Frag} {a : Addr} {xs : List V} {lo hi : Option Int} {H : Hp} {Q : VK} (e : H a = some (.tup xs)) (q : ∀ b H', Same H H' → H' b = some (.tup (cutV xs lo hi)) → Q (.ref b) H') : rSlA K (.ref a) lo hi H Q := by
  refine ⟨a, xs, rfl, SqT.of e, fun ⟨h1, h2⟩ => q a H (Same.refl H) ?_, fun _ p np => q p _ (same_upd (Same.refl H) np) upd_same⟩
  rw [e]
  unfold cutV
  rw [h1, h2, List.drop_zero, Nat.sub_zero, List.take_length]
/-- a comprehension over a tuple: each thing to a thing of its own -/
theorem lc_map {α β : Type} {K : PySem.W.Frag} {a : Addr} {us : List V} {xs : List α} {R : Hp → V → α → Prop} {S : Hp → V → β → Prop} {f : α → β} {g : TG} {te : TE} {vs : List Nat} {σ : L2.St} {H : Hp} {Qd : Addr → Hp → Prop}
    (ea : H a = some (.tup us)) (lv : LV (R H) us xs) (hl : xs.length ≤ 10000) (mS : Mn S)
    (hs : ∀ (i : Nat) (x : V) (r : α) (H1 : Hp) (QQ : VK) (NN : Hp → Prop), Same H H1 → us[i]? = some x → xs[i]? = some r → R H x r → (∀ y H4, Same H1 H4 → S H4 y (f r) → QQ y H4) →
      g x (wipe σ vs) H1 fun σ2 H2 => wipe σ2 vs = wipe σ vs ∧ tYes σ2 H2 fun b H3 => if b = true then te σ2 H3 QQ else NN H3)
    (hq : ∀ (D : Addr) (H' : Hp) (zs : List V), H D = none → Same H H' → H' D = some (.lst zs) → LV (S H') zs (xs.map f) → Qd D H') :
    ∀ D, H D = none → ∃ W : Nat → Nat → Hp → Prop, (∃ m, W 0 m (upd H D (.lst []))) ∧ ∀ i m H', W i m H' →
      ((Itt K a).stop i H' ∧ Qd D H') ∨ ((Itt K a).go i H' ∧ ∃ Nx : Hp → Prop, (∀ H'', Nx H'' → ∃ m', m' < m ∧ W (i + 1) m' H'') ∧ ∀ x H'', (Itt K a).yld i H' x H'' → g x (wipe σ vs) H'' fun σ2 H2 => wipe σ2 vs = wipe σ vs ∧ tYes σ2 H2 fun b H3 =>
        if b = true then te σ2 H3 fun y H4 => ∃ acc, H4 D = some (.lst acc) ∧ acc.length < sizeLine ∧ Nx (upd H4 D (.lst (acc ++ [y]))) else Nx H3) := by
  intro D nD
  refine lc_it (walk_tup (K := K) (a := a) (xs := us)) (fun i H' => ∃ zs, H' D = some (.lst zs) ∧ LV (S H') zs ((xs.take i).map f) ∧ Same H H') ⟨[], upd_same, LV.nil, same_upd (Same.refl H) nD⟩ ?_ ?_ ?_
  · rintro i H' _ ⟨_, _, _, k⟩
    exact SqT.of (k _ _ ea)
  · rintro i x H1 H2 hi ⟨zs, eD, lz, k1⟩ ⟨rfl, hx⟩
    obtain ⟨r, er, hr⟩ := lv.at hx
    refine hs i x r H2 _ _ k1 hx er hr fun y H4 k4 hy => ?_
    have eD4 := k4 _ _ eD
    have zl := lz.1
    rw [List.length_map, List.length_take] at zl
    refine ⟨zs, eD4, szN (by omega), zs ++ [y], upd_same, ?_, same_mut (k1.trans k4) nD⟩
    have tm : TK H4 (upd H4 D (.lst (zs ++ [y]))) := TK.mut (TK.refl _) eD4
    rw [take_one er, List.map_append]
    exact ((lz.mono fun _ _ z => mS.to z (TK.same k4)).snoc hy).mono fun _ _ z => mS.to z tm
  · rintro H1 ⟨zs, eD, lz, k1⟩
    rw [lv.1, List.take_length] at lz
    exact hq D H1 zs nD k1 eD lz
theorem TupR.new {α : Type} {R : Hp → V → α → Prop} (m : Mn R) {H : Hp} {p : Addr} {zs : List V} {ys : List α} (h : LV (R H) zs ys) (np : H p = none) : TupR R (upd H p (.tup zs)) (.ref p) ys :=
  ⟨p, zs, rfl, upd_same, h.mono fun _ _ z => m.to z (TK.new (TK.refl _) np)⟩
def nmS : Nat → Str
  | 0 => "wide"
  | 1 => "even"
  | 2 => "keep"
  | 3 => "rows"
  | 4 => "blocks"
  | 5 => "pages"
  | 6 => "below"
  | _ => "all"
theorem nm_eq : ∀ i, i < 8 → ∀ j, j < 8 → decide (V.str (nmS i) = V.str (nmS j)) = decide (i = j) := by decide +kernel
def StpR (H : Hp) (v : V) (st : Nat × Nat) : Prop := ∃ a, v = .ref a ∧ H a = some (.tup (if st.1 < 3 then [V.str (nmS st.1), nV st.2] else [V.str (nmS st.1)]))
theorem StpR.mn : Mn StpR := ⟨fun ⟨a, e, h⟩ k => ⟨a, e, k _ _ h⟩⟩
def StOk (st : Nat × Nat) : Prop := st.1 < 8 ∧ 1 ≤ st.2 ∧ st.2 ≤ 1000
def rowsN (r : Rw) : Rw := if hasC r = true then wholeN r else r
def pagesN (p : Pg) : Pg := if p.any hasC = true then p.map wholeN else p
def drawN : Nat → Nat → List Pg → List Pg
  | 0, n, l => l.map fun p => p.map (wideN n)
  | 1, n, l => l.map fun p => p.map (evenN n)
  | 2, n, l => l.take n
  | 3, _, l => l.map fun p => p.map rowsN
  | 4, _, l => l.map blocksN
  | 5, _, l => l.map pagesN
  | 6, _, l => belowN l
  | _, _, l => l.map fun p => p.map wholeN
section
variable {P : Program} {w : World} {K : PySem.W.Frag} {mg : Str → Option Value} {base : Heap}
def spDue : Sp := fun vs H Q _ => ∃ (sv v : V) (st : Nat × Nat) (l : List Pg), vs = [sv, v] ∧ StpR H sv st ∧ StOk st ∧ LkR H v l ∧ LkOk l ∧ ∀ H' u, Same H H' → LkR H' u (drawN st.1 st.2 l) → Q u H'
theorem ok_drawS (T : Txt K mg) : FnOk P w K mg base CX0 4 T.a_draw T.d_draw ["step", "look"] spDue := by
  have G_wide_row : FnOk P w K mg base CX0 1 T.a_wide_row T.d_wide_row ["row", "distance"] (spRowN wideN) := ok_wide T
  have G_even_row : FnOk P w K mg base CX0 1 T.a_even_row T.d_even_row ["row", "measure"] (spRowN evenN) := ok_even T
  have G_whole : FnOk P w K mg base CX0 1 T.a_whole T.d_whole ["row"] spWhole := ok_whole T
  have G_whole_page : FnOk P w K mg base CX0 2 T.a_whole_page T.d_whole_page ["page"] spWholeP := ok_wholeP T
  have G_has_cover : FnOk P w K mg base CX0 1 T.a_has_cover T.d_has_cover ["page"] spHasC := ok_hasC T
  have G_blocks_page : FnOk P w K mg base CX0 3 T.a_blocks_page T.d_blocks_page ["page"] spBlocksP := ok_blocksP T
  have G_below : FnOk P w K mg base CX0 2 T.a_below T.d_below ["look"] spBelow := ok_below T
  refine T.D_draw.F.ok sc_draw (fun vs H Q E h => ?_) (fun cdv A outer s H vs Q E hr h => ?_)
  · obtain ⟨sv, v, st, l, rfl, _⟩ := h
    rfl
  · obtain ⟨sv, v, ⟨k, n⟩, l, rfl, ⟨sa, rfl, es⟩, ⟨hk, hn1, hn⟩, ⟨a, us, rfl, ea, lv⟩, hok, q⟩ := h
    have hk : k < 8 := hk
    have hn1 : 1 ≤ n := hn1
    have hn : n ≤ 1000 := hn
    refine ⟨_, (pss_cons (ps_set (i := 2) sc_draw.nd rfl (.inl rfl) (pe_ix ix_tup (pv 0) pe_int (fun _ _ => rfl)))
      (pss_cons (ps_if (pt_cmpR op_eq (pv 2) pe_str (nomark _)) (pss_one (ps_ret (pe_callTy call_tuple_of (by rfl) T.n_tuple (by decide +kernel) (pa_cons (pe_lc (own := [("page", 3)]) (g := gName 3) (tt := tYes) rfl sc_draw.nd (pi_tup (pv 1)) (blkOk_by (own := [("page", 3)]) (N := ["step", "look", "name", "page", "row"]) (sc := (defScope s_draw)) (by decide +kernel)) (fun _ _ _ _ _ => (pg_name (i := 3) sc_draw.nd rfl (.inl rfl))) (fun _ _ _ _ _ => pts_nil) (fun _ _ _ _ _ => (pe_callTy (T := "tuple") (r := rTupleOf K) call_tuple_of (by rfl) T.n_tuple (by decide +kernel) (pa_cons (pe_lc (own := [("row", 4)]) (wi := iTup K _) (g := gName 4) (tt := tYes) rfl sc_draw.nd (pi_tup (pv 3)) (blkOk_by (own := [("row", 4)]) (N := ["step", "look", "name", "page", "row"]) (sc := (rel2 _ (defScope s_draw))) (by decide +kernel)) (fun _ _ _ _ _ => (pg_name (i := 4) sc_draw.nd rfl (.inl rfl))) (fun _ _ _ _ _ => pts_nil) (fun _ _ _ _ _ => (pe_call G_wide_row (hr.mono (by decide)) (by rfl) T.D_wide_row.G T.D_wide_row.F.kp T.D_wide_row.B .nil pass0 (pa_cons (pv 4) (pa_cons (pe_ix (r := rIxT K) ix_tup (pv 0) pe_int (fun _ _ => rfl)) pa_nil))))) pa_nil)))) pa_nil)))) pss_nil)
      (pss_cons (ps_if (pt_cmpR op_eq (pv 2) pe_str (nomark _)) (pss_one (ps_ret (pe_callTy call_tuple_of (by rfl) T.n_tuple (by decide +kernel) (pa_cons (pe_lc (own := [("page", 3)]) (g := gName 3) (tt := tYes) rfl sc_draw.nd (pi_tup (pv 1)) (blkOk_by (own := [("page", 3)]) (N := ["step", "look", "name", "page", "row"]) (sc := (defScope s_draw)) (by decide +kernel)) (fun _ _ _ _ _ => (pg_name (i := 3) sc_draw.nd rfl (.inl rfl))) (fun _ _ _ _ _ => pts_nil) (fun _ _ _ _ _ => (pe_callTy (T := "tuple") (r := rTupleOf K) call_tuple_of (by rfl) T.n_tuple (by decide +kernel) (pa_cons (pe_lc (own := [("row", 4)]) (wi := iTup K _) (g := gName 4) (tt := tYes) rfl sc_draw.nd (pi_tup (pv 3)) (blkOk_by (own := [("row", 4)]) (N := ["step", "look", "name", "page", "row"]) (sc := (rel2 _ (defScope s_draw))) (by decide +kernel)) (fun _ _ _ _ _ => (pg_name (i := 4) sc_draw.nd rfl (.inl rfl))) (fun _ _ _ _ _ => pts_nil) (fun _ _ _ _ _ => (pe_call G_even_row (hr.mono (by decide)) (by rfl) T.D_even_row.G T.D_even_row.F.kp T.D_even_row.B .nil pass0 (pa_cons (pv 4) (pa_cons (pe_ix (r := rIxT K) ix_tup (pv 0) pe_int (fun _ _ => rfl)) pa_nil))))) pa_nil)))) pa_nil)))) pss_nil)
      (pss_cons (ps_if (pt_cmpR op_eq (pv 2) pe_str (nomark _)) (pss_one (ps_ret (pe_callTy call_tuple_of (by rfl) T.n_tuple (by decide +kernel) (pa_cons (pe_lc (own := [("page", 3)]) (g := gName 3) (tt := tYes) rfl sc_draw.nd (pi_tup (pv 1)) (blkOk_by (own := [("page", 3)]) (N := ["step", "look", "name", "page", "row"]) (sc := (defScope s_draw)) (by decide +kernel)) (fun _ _ _ _ _ => (pg_name (i := 3) sc_draw.nd rfl (.inl rfl))) (fun _ _ _ _ _ => pts_nil) (fun _ _ _ _ _ => (pe_callTy (T := "tuple") (r := rTupleOf K) call_tuple_of (by rfl) T.n_tuple (by decide +kernel) (pa_cons (pe_lc (own := [("row", 4)]) (wi := iTup K _) (g := gName 4) (tt := tYes) rfl sc_draw.nd (pi_tup (pv 3)) (blkOk_by (own := [("row", 4)]) (N := ["step", "look", "name", "page", "row"]) (sc := (rel2 _ (defScope s_draw))) (by decide +kernel)) (fun _ _ _ _ _ => (pg_name (i := 4) sc_draw.nd rfl (.inl rfl))) (fun _ _ _ _ _ => pts_nil) (fun _ _ _ _ _ => (pe_ifExp (pt_cmpR op_in_sign (pe_glob (v := .str "#") (by rfl) T.m_COVER ⟨_, rfl⟩) (pv 4) (by rfl)) (pe_call G_whole (hr.mono (by decide)) (by rfl) T.D_whole.G T.D_whole.F.kp T.D_whole.B .nil pass0 (pa_cons (pv 4) pa_nil)) (pv 4)))) pa_nil)))) pa_nil)))) pss_nil)
      (pss_cons (ps_if (pt_cmpR op_eq (pv 2) pe_str (nomark _)) (pss_one (ps_ret (pe_callTy call_tuple_of (by rfl) T.n_tuple (by decide +kernel) (pa_cons (pe_lc (own := [("page", 3)]) (g := gName 3) (tt := tYes) rfl sc_draw.nd (pi_tup (pv 1)) (blkOk_by (own := [("page", 3)]) (N := ["step", "look", "name", "page", "row"]) (sc := (defScope s_draw)) (by decide +kernel)) (fun _ _ _ _ _ => (pg_name (i := 3) sc_draw.nd rfl (.inl rfl))) (fun _ _ _ _ _ => pts_nil) (fun _ _ _ _ _ => (pe_call G_blocks_page (hr.mono (by decide)) (by rfl) T.D_blocks_page.G T.D_blocks_page.F.kp T.D_blocks_page.B .nil pass0 (pa_cons (pv 3) pa_nil)))) pa_nil)))) pss_nil)
      (pss_cons (ps_if (pt_cmpR op_eq (pv 2) pe_str (nomark _)) (pss_one (ps_ret (pe_callTy call_tuple_of (by rfl) T.n_tuple (by decide +kernel) (pa_cons (pe_lc (own := [("page", 3)]) (g := gName 3) (tt := tYes) rfl sc_draw.nd (pi_tup (pv 1)) (blkOk_by (own := [("page", 3)]) (N := ["step", "look", "name", "page", "row"]) (sc := (defScope s_draw)) (by decide +kernel)) (fun _ _ _ _ _ => (pg_name (i := 3) sc_draw.nd rfl (.inl rfl))) (fun _ _ _ _ _ => pts_nil) (fun _ _ _ _ _ => (pe_ifExp (pt_val (pe_call G_has_cover (hr.mono (by decide)) (by rfl) T.D_has_cover.G T.D_has_cover.F.kp T.D_has_cover.B .nil pass0 (pa_cons (pv 3) pa_nil))) (pe_call G_whole_page (hr.mono (by decide)) (by rfl) T.D_whole_page.G T.D_whole_page.F.kp T.D_whole_page.B .nil pass0 (pa_cons (pv 3) pa_nil)) (pv 3)))) pa_nil)))) pss_nil)
      (pss_cons (ps_if (pt_cmpR op_eq (pv 2) pe_str (nomark _)) (pss_one (ps_ret (pe_call G_below (hr.mono (by decide)) (by rfl) T.D_below.G T.D_below.F.kp T.D_below.B .nil pass0 (pa_cons (pv 1) pa_nil)))) pss_nil)
      (pss_cons (ps_if (pt_cmpR op_eq (pv 2) pe_str (nomark _)) (pss_one (ps_ret (pe_callTy call_tuple_of (by rfl) T.n_tuple (by decide +kernel) (pa_cons (pe_lc (own := [("page", 3)]) (g := gName 3) (tt := tYes) rfl sc_draw.nd (pi_tup (pv 1)) (blkOk_by (own := [("page", 3)]) (N := ["step", "look", "name", "page", "row"]) (sc := (defScope s_draw)) (by decide +kernel)) (fun _ _ _ _ _ => (pg_name (i := 3) sc_draw.nd rfl (.inl rfl))) (fun _ _ _ _ _ => pts_nil) (fun _ _ _ _ _ => (pe_call G_whole_page (hr.mono (by decide)) (by rfl) T.D_whole_page.G T.D_whole_page.F.kp T.D_whole_page.B .nil pass0 (pa_cons (pv 3) pa_nil)))) pa_nil)))) pss_nil)
      (pss_one (ps_ret (pe_slice sl_tupA (pv 1) po_none (po_some (pe_ix ix_tup (pv 0) pe_int (fun _ _ => rfl)))))))))))))), ?_⟩
    have h0 : ∃ tl, H sa = some (.tup (V.str (nmS k) :: tl)) := by
      by_cases c : k < 3
      · exact ⟨_, by rw [es]; show some (HO.tup (if k < 3 then _ else _)) = _; rw [if_pos c]⟩
      · exact ⟨_, by rw [es]; show some (HO.tup (if k < 3 then _ else _)) = _; rw [if_neg c]⟩
    have h1 : k < 3 → H sa = some (.tup [V.str (nmS k), nV n]) := fun c => by rw [es]; show some (HO.tup (if k < 3 then _ else _)) = _; rw [if_pos c]
    obtain ⟨tl, e0⟩ := h0
    have ne := fun j hj => nm_eq k hk j hj
    refine ⟨_, rfl, sa, _, _, _, rfl, rfl, SqT.of e0, atI_nat (j := 0) rfl, ?_⟩
    have mk : ∀ (l2 : List Pg), drawN k n l = l2 → ∀ (D : Addr) (H' : Hp) (zs : List V), H D = none → Same H H' → H' D = some (.lst zs) → LV (PgR H') zs l2 → ∃ p ys, [V.ref D] = [V.ref p] ∧ ((SqL K H' p ys ∧ ∀ (l : Addr), H' l = none → Q (V.ref l) (upd H' l (HO.tup ys))) ∨ SqT K H' p ys ∧ Q (V.ref p) H') := by
      intro l2 e D H' zs nD k eD lz
      exact ⟨D, zs, rfl, .inl ⟨SqL.of eD, fun p np => q _ _ (same_upd k np) (by show LkR _ _ (drawN _ n l); rw [e]; exact TupR.new PgR.mn lz np)⟩⟩
    refine ⟨_, rfl, rfl, _, congrArg V.bl (ne 0 (by decide)), ?_⟩
    by_cases k0 : k = 0
    · rw [decide_eq_true k0]
      subst k0
      have fin := fun l2 e => mk l2 e
      refine ⟨_, rfl, a, rfl, ⟨_, SqT.of ea⟩, lc_map (K := K) (R := PgR) (S := PgR) (f := fun p => p.map (wideN n)) ea lv (by have := hok.1; omega) PgR.mn (fun i x pg H1 QQ NN k1 hx epg hpg hQ => ?_) ?_⟩
      · obtain ⟨b, bs, rfl, eb, lb⟩ := (PgR.mn.to hpg (TK.same k1))
        have pok := lk_ok hok epg
        have es1 := TK.same k1 _ _ e0
        refine ⟨rfl, _, rfl, b, rfl, ⟨_, SqT.of eb⟩, lc_map (K := K) (R := sgR) (S := sgR) (f := wideN n) eb lb (by have := pok.1; omega) sgR.mn (fun j y r H2 QQ2 NN2 k2 hy er hyr hQ2 => ?_) ?_⟩
        · have hyr : y = sV r := hyr
          subst hyr
          have rl := pok.2 r (List.mem_of_getElem? er)
          exact ⟨rfl, _, rfl, _, rfl, sa, _, _, _, rfl, rfl, SqT.of (TK.same (k1.trans k2) _ _ (h1 (by decide))), atI_nat (j := 1) rfl, r, n, rfl, by omega, hn1, hn, fun H3 k3 => hQ2 _ _ k3 rfl⟩
        · intro D2 H2 zs nD2 k2 eD2 lz
          exact ⟨D2, _, rfl, .inl ⟨SqL.of eD2, fun p np => hQ _ _ (same_upd k2 np) (TupR.new sgR.mn lz np)⟩⟩
      · exact fin _ rfl
    rw [decide_eq_false k0]
    refine ⟨_, rfl, rfl, _, congrArg V.bl (ne 1 (by decide)), ?_⟩
    by_cases k1 : k = 1
    · rw [decide_eq_true k1]
      subst k1
      have fin := fun l2 e => mk l2 e
      refine ⟨_, rfl, a, rfl, ⟨_, SqT.of ea⟩, lc_map (K := K) (R := PgR) (S := PgR) (f := fun p => p.map (evenN n)) ea lv (by have := hok.1; omega) PgR.mn (fun i x pg H1 QQ NN k1 hx epg hpg hQ => ?_) ?_⟩
      · obtain ⟨b, bs, rfl, eb, lb⟩ := (PgR.mn.to hpg (TK.same k1))
        have pok := lk_ok hok epg
        have es1 := TK.same k1 _ _ e0
        refine ⟨rfl, _, rfl, b, rfl, ⟨_, SqT.of eb⟩, lc_map (K := K) (R := sgR) (S := sgR) (f := evenN n) eb lb (by have := pok.1; omega) sgR.mn (fun j y r H2 QQ2 NN2 k2 hy er hyr hQ2 => ?_) ?_⟩
        · have hyr : y = sV r := hyr
          subst hyr
          have rl := pok.2 r (List.mem_of_getElem? er)
          exact ⟨rfl, _, rfl, _, rfl, sa, _, _, _, rfl, rfl, SqT.of (TK.same (k1.trans k2) _ _ (h1 (by decide))), atI_nat (j := 1) rfl, r, n, rfl, by omega, hn1, hn, fun H3 k3 => hQ2 _ _ k3 rfl⟩
        · intro D2 H2 zs nD2 k2 eD2 lz
          exact ⟨D2, _, rfl, .inl ⟨SqL.of eD2, fun p np => hQ _ _ (same_upd k2 np) (TupR.new sgR.mn lz np)⟩⟩
      · exact fin _ rfl
    rw [decide_eq_false k1]
    refine ⟨_, rfl, rfl, _, congrArg V.bl (ne 3 (by decide)), ?_⟩
    by_cases k3 : k = 3
    · rw [decide_eq_true k3]
      subst k3
      have fin := fun l2 e => mk l2 e
      refine ⟨_, rfl, a, rfl, ⟨_, SqT.of ea⟩, lc_map (K := K) (R := PgR) (S := PgR) (f := fun p => p.map (rowsN)) ea lv (by have := hok.1; omega) PgR.mn (fun i x pg H1 QQ NN k1 hx epg hpg hQ => ?_) ?_⟩
      · obtain ⟨b, bs, rfl, eb, lb⟩ := (PgR.mn.to hpg (TK.same k1))
        have pok := lk_ok hok epg
        have es1 := TK.same k1 _ _ e0
        refine ⟨rfl, _, rfl, b, rfl, ⟨_, SqT.of eb⟩, lc_map (K := K) (R := sgR) (S := sgR) (f := rowsN) eb lb (by have := pok.1; omega) sgR.mn (fun j y r H2 QQ2 NN2 k2 hy er hyr hQ2 => ?_) ?_⟩
        · have hyr : y = sV r := hyr
          subst hyr
          have rl := pok.2 r (List.mem_of_getElem? er)
          refine ⟨rfl, _, rfl, 35, mkS r, by rw [hash_mk]; rfl, rfl, _, rfl, ?_⟩
          rw [in_hash]
          have e : sV (rowsN r) = if hasC r = true then sV (wholeN r) else sV r := by unfold rowsN; split <;> rfl
          have hq := fun y (h : y = sV (rowsN r)) => hQ2 y H2 (Same.refl _) h
          rw [e] at hq
          generalize hasC r = hc at hq
          cases hc with
          | true => exact ⟨_, rfl, r, rfl, by omega, hq _ rfl⟩
          | false => exact ⟨_, rfl, hq _ rfl⟩
        · intro D2 H2 zs nD2 k2 eD2 lz
          exact ⟨D2, _, rfl, .inl ⟨SqL.of eD2, fun p np => hQ _ _ (same_upd k2 np) (TupR.new sgR.mn lz np)⟩⟩
      · exact fin _ rfl
    rw [decide_eq_false k3]
    refine ⟨_, rfl, rfl, _, congrArg V.bl (ne 4 (by decide)), ?_⟩
    by_cases k4 : k = 4
    · rw [decide_eq_true k4]
      subst k4
      have fin := fun l2 e => mk l2 e
      refine ⟨_, rfl, a, rfl, ⟨_, SqT.of ea⟩, lc_map (K := K) (R := PgR) (S := PgR) (f := blocksN) ea lv (by have := hok.1; omega) PgR.mn (fun i x pg H1 QQ NN k1 hx epg hpg hQ => ?_) ?_⟩
      · have hpg := PgR.mn.to hpg (TK.same k1)
        have pok := lk_ok hok epg
        obtain ⟨b, rfl, eb⟩ := PgR.iff.mp hpg
        exact ⟨rfl, _, rfl, _, pg, rfl, hpg, pok, fun H3 u k3 hu => hQ _ _ k3 hu⟩
      · exact fin _ rfl
    rw [decide_eq_false k4]
    refine ⟨_, rfl, rfl, _, congrArg V.bl (ne 5 (by decide)), ?_⟩
    by_cases k5 : k = 5
    · rw [decide_eq_true k5]
      subst k5
      have fin := fun l2 e => mk l2 e
      refine ⟨_, rfl, a, rfl, ⟨_, SqT.of ea⟩, lc_map (K := K) (R := PgR) (S := PgR) (f := pagesN) ea lv (by have := hok.1; omega) PgR.mn (fun i x pg H1 QQ NN k1 hx epg hpg hQ => ?_) ?_⟩
      · have hpg := PgR.mn.to hpg (TK.same k1)
        have pok := lk_ok hok epg
        obtain ⟨b, rfl, eb⟩ := PgR.iff.mp hpg
        refine ⟨rfl, _, rfl, b, pg, rfl, .inl eb, pok.1, fun H3 k3 => ⟨_, rfl, ?_⟩⟩
        have hpg3 := PgR.mn.to hpg (TK.same k3)
        have hq := fun y H4 (k4 : Same H3 H4) (h : PgR H4 y (pagesN pg)) => hQ y H4 (k3.trans k4) h
        unfold pagesN at hq
        generalize pg.any hasC = hc at hq
        cases hc with
        | true => exact ⟨_, rfl, _, pg, rfl, hpg3, pok, fun H4 u k4 hu => hq _ _ k4 hu⟩
        | false => exact ⟨_, rfl, hq _ _ (Same.refl _) hpg3⟩
      · exact fin _ rfl
    rw [decide_eq_false k5]
    refine ⟨_, rfl, rfl, _, congrArg V.bl (ne 6 (by decide)), ?_⟩
    by_cases k6 : k = 6
    · rw [decide_eq_true k6]
      subst k6
      exact ⟨_, rfl, _, l, rfl, ⟨a, us, rfl, ea, lv⟩, hok, q⟩
    rw [decide_eq_false k6]
    refine ⟨_, rfl, rfl, _, congrArg V.bl (ne 7 (by decide)), ?_⟩
    by_cases k7 : k = 7
    · rw [decide_eq_true k7]
      subst k7
      have fin := fun l2 e => mk l2 e
      refine ⟨_, rfl, a, rfl, ⟨_, SqT.of ea⟩, lc_map (K := K) (R := PgR) (S := PgR) (f := fun p => p.map wholeN) ea lv (by have := hok.1; omega) PgR.mn (fun i x pg H1 QQ NN k1 hx epg hpg hQ => ?_) ?_⟩
      · have hpg := PgR.mn.to hpg (TK.same k1)
        have pok := lk_ok hok epg
        obtain ⟨b, rfl, eb⟩ := PgR.iff.mp hpg
        exact ⟨rfl, _, rfl, _, pg, rfl, hpg, pok, fun H3 u k3 hu => hQ _ _ k3 hu⟩
      · exact fin _ rfl
    rw [decide_eq_false k7]
    have k2 : k = 2 := by omega
    subst k2
    refine ⟨_, rfl, _, rfl, sa, _, _, _, rfl, rfl, SqT.of (h1 (by decide)), atI_nat (j := 1) rfl, _, rfl, ?_⟩
    refine slA_any ea fun b H' k' eb => q _ _ k' ⟨b, _, rfl, eb, ?_⟩
    rw [show cutV us none (some ((n : Nat) : Int)) = us.take n from by
      unfold cutV
      rw [HT.sIx_none, HT.sIx_nat, List.drop_zero, Nat.sub_zero]
      by_cases c : n ≤ us.length
      · rw [Nat.min_eq_left c]
      · rw [Nat.min_eq_right (by omega), List.take_length, List.take_of_length_le (by omega)]]
    exact (lv.mono fun _ _ z => PgR.mn.to z (TK.same k')).takeN n
end
end Vf

set_option Elab.async false
set_option linter.all false
set_option maxRecDepth 100000
set_option maxHeartbeats 4000000
namespace Vf
open PySem PySem.Spec PyProof.Rows L2 TL
/-- a comprehension with a test, its things by their numbers -/
theorem lc_fil {J : It} {n : Nat} {G : Hp → Prop} {it : Nat → V} (w : Walk J n G (YFn it)) {p : Nat → Bool} {f : Nat → V} {g : TG} {tt : TT} {te : TE} {vs : List Nat} {σ : L2.St} {H : Hp} {Qd : Addr → Hp → Prop}
    (hG : ∀ H', Same H H' → G H') (hn : n ≤ 10000)
    (hs : ∀ (i : Nat) (H1 : Hp) (QQ : VK) (NN : Hp → Prop), i < n → Same H H1 → (p i = true → ∀ y H4, Same H1 H4 → y = f i → QQ y H4) → (p i = false → ∀ H4, Same H1 H4 → NN H4) →
      g (it i) (wipe σ vs) H1 fun σ2 H2 => wipe σ2 vs = wipe σ vs ∧ tt σ2 H2 fun b H3 => if b = true then te σ2 H3 QQ else NN H3)
    (hq : ∀ (D : Addr) (H' : Hp), H D = none → Same H H' → H' D = some (.lst (((List.range n).filter p).map f)) → Qd D H') :
    ∀ D, H D = none → ∃ W : Nat → Nat → Hp → Prop, (∃ m, W 0 m (upd H D (.lst []))) ∧ ∀ i m H', W i m H' →
      (J.stop i H' ∧ Qd D H') ∨ (J.go i H' ∧ ∃ Nx : Hp → Prop, (∀ H'', Nx H'' → ∃ m', m' < m ∧ W (i + 1) m' H'') ∧ ∀ x H'', J.yld i H' x H'' → g x (wipe σ vs) H'' fun σ2 H2 => wipe σ2 vs = wipe σ vs ∧ tt σ2 H2 fun b H3 =>
        if b = true then te σ2 H3 fun y H4 => ∃ acc, H4 D = some (.lst acc) ∧ acc.length < sizeLine ∧ Nx (upd H4 D (.lst (acc ++ [y]))) else Nx H3) := by
  intro D nD
  refine lc_it w (fun i H' => H' D = some (.lst (((List.range i).filter p).map f)) ∧ Same H H') ⟨upd_same, same_upd (Same.refl H) nD⟩ ?_ ?_ ?_
  · rintro i H' _ ⟨_, k⟩
    exact hG _ k
  · rintro i x H1 H2 hi ⟨eD, k1⟩ ⟨rfl, rfl⟩
    have lm : ((List.range i).filter p).length ≤ i := Nat.le_trans (List.length_filter_le _ _) (by rw [List.length_range]; exact Nat.le_refl _)
    refine hs i H2 _ _ hi k1 (fun hp y H4 k4 hy => ?_) fun hp H4 k4 => ⟨?_, k1.trans k4⟩
    · refine ⟨_, k4 _ _ eD, szN (by rw [List.length_map]; omega), ?_, same_mut (k1.trans k4) nD⟩
      rw [upd_same, List.range_succ, List.filter_append, List.filter_cons_of_pos hp, List.map_append, hy]; rfl
    · rw [List.range_succ, List.filter_append, List.filter_cons_of_neg (by rw [hp]; decide), List.filter_nil, List.append_nil]
      exact k4 _ _ eD
  · rintro H1 ⟨eD, k1⟩
    exact hq D H1 nD k1 eD
theorem walk_listF {K : PySem.W.Frag} {a : Addr} {xs : List V} (d : V) : Walk (Itl K a) xs.length (fun H => SqL K H a xs) (YFn fun i => xs.getD i d) :=
  walk_list.mono (fun _ h => h) fun i H x H' hi _ y => ⟨y.1, (getD_of y.2).symm⟩
theorem walk_tupF {K : PySem.W.Frag} {a : Addr} {xs : List V} (d : V) : Walk (Itt K a) xs.length (fun H => SqT K H a xs) (YFn fun i => xs.getD i d) :=
  walk_tup.mono (fun _ h => h) fun i H x H' hi _ y => ⟨y.1, (getD_of y.2).symm⟩
theorem walk_rangeN {n : Nat} : Walk (Itr 0 n) n (fun _ => True) (YFn nV) :=
  walk_range.mono (fun _ h => h) fun i H x H' hi _ y => ⟨y.1, y.2.trans (int0 i)⟩
theorem fil_getD {α : Type} (xs : List α) (p : α → Bool) (d : α) : ((List.range xs.length).filter fun i => p (xs.getD i d)).map (fun i => xs.getD i d) = xs.filter p := by
  have e : xs = (List.range xs.length).map fun i => xs.getD i d := by
    refine List.ext_getElem (by rw [List.length_map, List.length_range]) fun i a b => ?_
    rw [List.getElem_map, List.getElem_range, List.getD_eq_getElem?_getD, List.getElem?_eq_getElem a]; rfl
  conv => rhs; rw [e, List.filter_map]
  rfl
theorem str_at {zs : List Nat} {x : Nat} (h : x < zs.length) : atI (mkS zs).cps.toList ((x : Nat) : Int) = some (zs.getD x 0) := by
  refine atI_nat ?_
  show (zs.toArray.toList)[x]? = _
  rw [List.getD_eq_getElem?_getD, List.getElem?_eq_getElem h]
  simp [h]
def plcN (zs : Rw) : List Nat := (List.range zs.length).filter fun x => decide (zs.getD x 0 = 35)
theorem near_fil (n : Nat) (zs : Rw) (x : Nat) : (((plcN zs).filter fun y => decide (x ≤ y + n) && decide (y ≤ x + n)) = []) ↔ nearB n zs x = false := by
  unfold plcN
  rw [List.filter_filter, List.filter_eq_nil_iff]
  unfold nearB
  rw [List.any_eq_false]
  constructor
  · intro h y hy z
    refine h y hy ?_
    rw [Bool.and_comm]; exact z
  · intro h y hy z
    refine h y hy ?_
    rw [Bool.and_comm]; exact z
theorem abs_le (i y n : Nat) : decide ((if ((i : Nat) : Int) - ((y : Nat) : Int) < 0 then -(((i : Nat) : Int) - ((y : Nat) : Int)) else ((i : Nat) : Int) - ((y : Nat) : Int)) ≤ ((n : Nat) : Int)) = (decide (i ≤ y + n) && decide (y ≤ i + n)) := by
  by_cases h1 : i ≤ y + n
  · by_cases h2 : y ≤ i + n
    · rw [decide_eq_true h1, decide_eq_true h2]
      exact decide_eq_true (by split <;> omega)
    · rw [decide_eq_true h1, decide_eq_false h2]
      exact decide_eq_false (by split <;> omega)
  · rw [decide_eq_false h1, Bool.false_and]
    exact decide_eq_false (by split <;> omega)
section
variable {P : Program} {w : World} {K : PySem.W.Frag} {mg : Str → Option Value} {base : Heap}
theorem ok_wideD (T : Txt K mg) : FnOk P w K mg base CX0 1 T.a_law_wide_due T.d_law_wide_due ["_law_row", "_law_n"] (spRowN wideN) := by
  refine T.D_law_wide_due.F.ok sc_law_wide_due (fun vs H Q E h => ?_) (fun cdv A outer s H vs Q E hr h => ?_)
  · obtain ⟨zs, n, rfl, _⟩ := h
    rfl
  · obtain ⟨zs, n, rfl, hz, n1, hn, q⟩ := h
    refine ⟨_, (pss_cons (ps_setLc (i := 2) (own := [("_law_x", 4)]) (g := gName 4) rfl sc_law_wide_due.nd rfl rfl (sw_true rfl rfl rfl (by decide +kernel)) (pi_range1 (by rfl) T.n_range (pa_cons (pe_callB call_len_str (by rfl) T.n_len PySem.boot_len (pa_cons (pv 0) pa_nil)) pa_nil)) (blkOk_by (own := [("_law_x", 4)]) (N := ["_law_row", "_law_n", "_law_places", "_law_cells", "_law_x", "_law_near", "_law_y"]) (sc := (defScope s_law_wide_due)) (by decide +kernel)) (fun _ _ _ _ _ => (pg_name (i := 4) sc_law_wide_due.nd rfl (.inl rfl))) (fun _ _ _ _ _ => (pts_one (pt_cmpR op_eq (pe_ix ix_str (pv 0) (pv 4) (fun _ _ => rfl)) pe_str (nomark _)))) (fun _ _ _ _ _ => (pv 4)))
      (pss_cons (ps_set (i := 3) sc_law_wide_due.nd rfl (.inl rfl) (pe_lst pa_nil))
      (pss_cons (ps_for PassesOwn.never rfl (pi_range1 (by rfl) T.n_range (pa_cons (pe_callB call_len_str (by rfl) T.n_len PySem.boot_len (pa_cons (pv 0) pa_nil)) pa_nil)) (pg_name (i := 4) sc_law_wide_due.nd rfl (.inr rfl)) (pss_cons (ps_setLc (i := 5) (own := [("_law_y", 6)]) (g := gName 6) rfl sc_law_wide_due.nd rfl rfl (sw_true rfl rfl rfl (by decide +kernel)) (pi_list (pv 2)) (blkOk_by (own := [("_law_y", 6)]) (N := ["_law_row", "_law_n", "_law_places", "_law_cells", "_law_x", "_law_near", "_law_y"]) (sc := (defScope s_law_wide_due)) (by decide +kernel)) (fun _ _ _ _ _ => (pg_name (i := 6) sc_law_wide_due.nd rfl (.inl rfl))) (fun _ _ _ _ _ => (pts_one (pt_cmpR op_le (pe_callB call_abs (by rfl) T.n_abs (by decide +kernel) (pa_cons (pe_op op_sub (pv 4) (pv 6)) pa_nil)) (pv 1) (nomark _)))) (fun _ _ _ _ _ => (pv 6)))
      (pss_one (ps_expr (pe_bm PySem.F.plainAttrs_list PySem.F.slot_list_append PySem.F.type_list_append mt_append (pv 3) (pa_cons (pe_ifExp (pt_truth (pv 5) (by intro _; rfl)) pe_str (pe_ix ix_str (pv 0) (pv 4) (fun _ _ => rfl))) pa_nil))))))
      (pss_one (ps_ret (pe_join pe_str (pv 3))))))), ?_⟩
    have sz : (mkS zs).length ≤ sizeLine := by rw [mkS_len]; exact big_ok (by omega)
    refine ⟨_, rfl, mkS zs, rfl, sz, (zs.length : Int), by rw [mkS_len], by omega, by omega, ?_⟩
    rw [toNat_k]
    refine lc_fil walk_rangeN (p := fun x => decide (zs.getD x 0 = 35)) (f := nV) (fun _ _ => trivial) (by omega) (fun i H1 QQ NN hi k1 hy hn => ?_) fun A0 H1 nA k1 eA => ?_
    · refine ⟨rfl, _, rfl, _, rfl, mkS zs, (i : Nat), zs.getD i 0, rfl, rfl, sz, str_at hi, rfl, decide (zs.getD i 0 = 35), congrArg V.bl (dec_sign _ _ 35 hash_mk), ?_⟩
      by_cases c : decide (zs.getD i 0 = 35) = true
      · rw [c]
        exact ⟨_, rfl, hy c _ _ (Same.refl _) rfl⟩
      · rw [Bool.eq_false_iff.mpr c]
        exact hn (Bool.eq_false_iff.mpr c) _ (Same.refl _)
    · have eA : H1 A0 = some (.lst ((plcN zs).map nV)) := eA
      refine ⟨Nat.zero_le _, fun D nD => ?_⟩
      have k2 := same_upd (o := .lst []) k1 nD
      have eA2 : upd H1 D (.lst []) A0 = _ := (upd_ne (ne_of_none eA nD)).trans eA
      have eD2 : upd H1 D (.lst []) D = some (.lst []) := upd_same
      have nDH : H D = none := by
        cases z : H D with
        | none => rfl
        | some o => rw [k1 _ _ z] at nD; cases nD
      have nAD : A0 ≠ D := ne_of_none eA nD
      generalize upd H1 D (.lst []) = H2 at k2 eA2 eD2
      refine ⟨_, rfl, mkS zs, rfl, sz, (zs.length : Int), by rw [mkS_len], by omega, by omega, ?_⟩
      rw [toNat_k]
      refine for_it walk_rangeN (fun i σ' H' => ∃ x4 x5 x6 : Option V, σ' = [some (sV zs), some (nV n), some (.ref A0), some (.ref D), x4, x5, x6] ∧ Same H H' ∧ H' A0 = some (.lst ((plcN zs).map nV)) ∧ H' D = some (.lst (((List.range i).map fun x => if nearB n zs x = true then 35 else zs.getD x 0).map fun c => sV [c]))) ⟨none, none, none, rfl, k2, eA2, eD2⟩ (fun _ _ _ _ _ => trivial) ?_ ?_
      · rintro i x σ1 H3 H4 hi ⟨x4, x5, x6, rfl, k3, eA3, eD3⟩ ⟨rfl, rfl⟩
        refine ⟨_, rfl, A0, rfl, ⟨_, SqL.of eA3⟩, ?_⟩
        have lp : (plcN zs).length ≤ 1000 := by unfold plcN; exact Nat.le_trans (List.length_filter_le _ _) (by rw [List.length_range]; exact hz)
        refine lc_fil (walk_listF (nV 0)) (p := fun j => decide (i ≤ (plcN zs).getD j 0 + n) && decide ((plcN zs).getD j 0 ≤ i + n)) (f := fun j => nV ((plcN zs).getD j 0)) (fun H' k => SqL.of (k _ _ eA3)) (by rw [List.length_map]; omega) (fun j H5 QQ NN hj k5 hy hn => ?_) fun B H5 nB k5 eB => ?_
        · rw [List.length_map] at hj
          have ey : ((plcN zs).map nV).getD j (nV 0) = nV ((plcN zs).getD j 0) := getD_of (nat_at hj)
          rw [ey]
          refine ⟨rfl, _, rfl, _, rfl, _, _, rfl, rfl, _, rfl, _, rfl, _, _, rfl, rfl, decide (i ≤ (plcN zs).getD j 0 + n) && decide ((plcN zs).getD j 0 ≤ i + n), congrArg V.bl (abs_le i _ n), ?_⟩
          by_cases c : (decide (i ≤ (plcN zs).getD j 0 + n) && decide ((plcN zs).getD j 0 ≤ i + n)) = true
          · rw [c]
            exact ⟨_, rfl, hy c _ _ (Same.refl _) rfl⟩
          · rw [Bool.eq_false_iff.mpr c]
            exact hn (Bool.eq_false_iff.mpr c) _ (Same.refl _)
        · rw [List.length_map] at eB
          have nf := near_fil n zs i
          have eB : H5 B = some (.lst (((plcN zs).filter fun y => decide (i ≤ y + n) && decide (y ≤ i + n)).map nV)) := by
            rw [eB, ← fil_getD (plcN zs) (fun y => decide (i ≤ y + n) && decide (y ≤ i + n)) 0, List.map_map]; rfl
          have eD5 := k5 _ _ eD3
          have fin : ∀ (c : Nat) (x4 x5 x6 : Option V), c = (if nearB n zs i = true then 35 else zs.getD i 0) → ∃ x4' x5' x6' : Option V, [some (sV zs), some (nV n), some (.ref A0), some (.ref D), x4, x5, x6] = [some (sV zs), some (nV n), some (.ref A0), some (.ref D), x4', x5', x6'] ∧ Same H (upd H5 D (.lst (((List.range i).map fun x => if nearB n zs x = true then 35 else zs.getD x 0).map (fun c => sV [c]) ++ [sV [c]]))) ∧ upd H5 D (.lst (((List.range i).map fun x => if nearB n zs x = true then 35 else zs.getD x 0).map (fun c => sV [c]) ++ [sV [c]])) A0 = some (.lst ((plcN zs).map nV)) ∧ upd H5 D (.lst (((List.range i).map fun x => if nearB n zs x = true then 35 else zs.getD x 0).map (fun c => sV [c]) ++ [sV [c]])) D = some (.lst (((List.range (i + 1)).map fun x => if nearB n zs x = true then 35 else zs.getD x 0).map fun c => sV [c])) := fun c x4 x5 x6 hc => by
            refine ⟨_, _, _, rfl, same_mut (k3.trans k5) nDH, (upd_ne nAD).trans (k5 _ _ eA3), ?_⟩
            rw [List.range_succ, List.map_append, List.map_append, hc]
            exact upd_same
          have ln : (((List.range i).map fun x => if nearB n zs x = true then 35 else zs.getD x 0).map fun c => sV [c]).length < sizeLine := szN (by rw [List.length_map, List.length_map, List.length_range]; omega)
          refine ⟨_, rfl, .inl ⟨rfl, _, SqL.of eD5⟩, _, rfl, ?_⟩
          cases e : (plcN zs).filter fun y => decide (i ≤ y + n) && decide (y ≤ i + n) with
          | nil =>
            rw [e] at eB
            refine ⟨false, .inl ⟨_, SqL.of eB, rfl⟩, _, rfl, _, rfl, mkS zs, (i : Nat), zs.getD i 0, rfl, rfl, sz, str_at hi, D, _, _, rfl, rfl, eD5, ln, ?_⟩
            exact fin _ _ _ _ (by rw [nf.mp e]; rfl)
          | cons y ys =>
            rw [e] at eB
            have hn2 : nearB n zs i = true := by
              cases z : nearB n zs i with
              | true => rfl
              | false => rw [nf.mpr z] at e; cases e
            have fin := fin 35
            rw [show (sV [35] : V) = V.str ("#" : Str) from by rw [hash_mk]; rfl] at fin
            refine ⟨true, .inl ⟨_, SqL.of eB, rfl⟩, D, _, _, rfl, rfl, eD5, ln, ?_⟩
            exact fin _ _ _ (by rw [hn2]; rfl)
      · rintro σ1 H3 ⟨x4, x5, x6, rfl, k3, eA3, eD3⟩
        have eD3 : H3 D = some (.lst ((wideN n zs).map fun c => sV [c])) := eD3
        refine ⟨⟨_, rfl⟩, _, rfl, _, D, ((wideN n zs).map fun c => [c]).map mkS, rfl, rfl, .inl (SqL.of (by rw [eD3, sgs_V])), sgs_sz (by unfold wideN; rw [List.length_map, List.length_range]; exact hz), ?_⟩
        rw [join_sgs]
        exact q _ k3
end
end Vf

set_option Elab.async false
set_option linter.all false
set_option maxRecDepth 100000
set_option maxHeartbeats 4000000
namespace Vf
open PySem PySem.Spec PyProof.Rows L2 TL
def PrR : Hp → V → Nat × Nat → Prop := PairR natR natR
theorem PrR.mn : Mn PrR := PairR.mn natR_mn natR_mn
theorem PrR.at {H : Hp} {v : V} {g : Nat × Nat} (h : PrR H v g) : ∃ p, v = .ref p ∧ H p = some (.tup [nV g.1, nV g.2]) := by
  obtain ⟨p, u, w, e, h1, h2, h3⟩ := h
  rw [show u = nV g.1 from h2, show w = nV g.2 from h3] at h1
  exact ⟨p, e, h1⟩
theorem PrR.new {H : Hp} {p : Addr} {a b : V} {g : Nat × Nat} (ha : a = nV g.1) (hb : b = nV g.2) : PrR (upd H p (.tup [a, b])) (.ref p) g := ⟨p, a, b, rfl, upd_same, ha, hb⟩
theorem set_last {α : Type} (us : List α) (v w : α) : (us ++ [v]).set us.length w = us ++ [w] := by
  rw [List.set_append_right _ _ (Nat.le_refl _), Nat.sub_self]; rfl
theorem ixN_end {α : Type} (us : List α) (v : α) : ixN (us ++ [v]).length (-1) = some us.length := by
  unfold ixN
  rw [List.length_append, if_neg (by decide), if_pos (by show -(((us.length + 1 : Nat)) : Int) ≤ -1; omega)]
  congr 1
  show (-1 + ((us.length + 1 : Nat) : Int)).toNat = us.length
  omega
theorem emp_app {α : Type} (us : List α) (v : α) : (!(us ++ [v]).isEmpty) = true := by cases us <;> rfl
theorem fm (a b : Nat) : ((a : Nat) : Int).fmod ((b : Nat) : Int) = ((a % b : Nat) : Int) := by
  rw [Int.fmod_eq_emod_of_nonneg _ (by omega)]; rfl
theorem up_val {n L f b : Nat} (n1 : 1 ≤ n) (hfb : f ≤ b) : (if ((b : Nat) : Int) + (((n : Nat) : Int) - (((b : Nat) : Int) - ((f : Nat) : Int)).fmod ((n : Nat) : Int)).fmod ((n : Nat) : Int) < ((L : Nat) : Int) then ((b : Nat) : Int) + (((n : Nat) : Int) - (((b : Nat) : Int) - ((f : Nat) : Int)).fmod ((n : Nat) : Int)).fmod ((n : Nat) : Int) else ((L : Nat) : Int)) = ((upTo n L f b : Nat) : Int) := by
  have e1 : (((b : Nat) : Int) - ((f : Nat) : Int)) = ((b - f : Nat) : Int) := by omega
  have hl := Nat.mod_lt (b - f) (show 0 < n by omega)
  have e2 : (((n : Nat) : Int) - (((b - f) % n : Nat) : Int)) = ((n - (b - f) % n : Nat) : Int) := by omega
  rw [e1, fm, e2, fm]
  unfold upTo
  generalize (n - (b - f) % n) % n = s
  split <;> omega
def pntN (zs : Rw) (G : List (Nat × Nat)) : Rw := (List.range zs.length).map fun y => if covG G y = true then 35 else zs.getD y 0
theorem pnt_at {zs : Rw} {G : List (Nat × Nat)} {i : Nat} (h : i < (pntN zs G).length) : (pntN zs G)[i] = if covG G i = true then 35 else zs.getD i 0 := by simp [pntN]
theorem pnt_nil (zs : Rw) : pntN zs [] = zs := by
  refine List.ext_getElem (by unfold pntN; rw [List.length_map, List.length_range]) fun i a b => ?_
  rw [pnt_at]
  show (if false = true then _ else _) = _
  rw [if_neg Bool.false_ne_true, List.getD_eq_getElem?_getD, List.getElem?_eq_getElem b]; rfl
theorem pnt_empty (zs : Rw) (G : List (Nat × Nat)) (f : Nat) : pntN zs (G ++ [(f, f)]) = pntN zs G := by
  unfold pntN
  refine List.map_congr_left fun y _ => ?_
  rw [cov_snoc]
  by_cases h : f ≤ y
  · rw [decide_eq_false (show ¬ y < f by omega), Bool.and_false, Bool.or_false]
  · rw [decide_eq_false h, Bool.false_and, Bool.or_false]
theorem pnt_set (zs : Rw) (G : List (Nat × Nat)) (f x : Nat) (h : f ≤ x) (hx : x < zs.length) : (pntN zs (G ++ [(f, x)])).set x 35 = pntN zs (G ++ [(f, x + 1)]) := by
  refine List.ext_getElem (by unfold pntN; simp) fun i a b => ?_
  have hi : i < zs.length := by unfold pntN at b; rw [List.length_map, List.length_range] at b; exact b
  rw [List.getElem_set]
  by_cases e : x = i
  · rw [if_pos e, pnt_at, cov_snoc, decide_eq_true (show f ≤ i by omega), decide_eq_true (show i < x + 1 by omega)]
    simp
  · rw [if_neg e, pnt_at, pnt_at, cov_snoc, cov_snoc]
    by_cases h2 : i < x
    · rw [decide_eq_true h2, decide_eq_true (show i < x + 1 by omega)]
    · rw [decide_eq_false h2, decide_eq_false (show ¬ i < x + 1 by omega)]
theorem LV.split {α : Type} {R : V → α → Prop} {us : List V} {rs : List α} {r : α} (h : LV R us (rs ++ [r])) : ∃ us0 u, us = us0 ++ [u] ∧ LV R us0 rs ∧ R u r := by
  have hl := h.1
  rw [List.length_append] at hl
  have hne : us ≠ [] := fun z => by rw [z] at hl; cases hl
  have e := (List.dropLast_concat_getLast hne).symm
  refine ⟨us.dropLast, us.getLast hne, e, ⟨by rw [List.length_dropLast, hl]; rfl, fun i q hq => ?_⟩, ?_⟩
  · have hi := (List.getElem?_eq_some_iff.mp hq).1
    obtain ⟨x, e1, e2⟩ := h.2 i q (by rw [List.getElem?_append_left hi]; exact hq)
    refine ⟨x, ?_, e2⟩
    rw [e, List.getElem?_append_left (by rw [List.length_dropLast, hl]; exact hi)] at e1
    exact e1
  · obtain ⟨x, e1, e2⟩ := h.2 rs.length r (by rw [List.getElem?_append_right (Nat.le_refl _), Nat.sub_self]; rfl)
    have ld : us.dropLast.length = rs.length := by rw [List.length_dropLast, hl]; rfl
    rw [e, List.getElem?_append_right (by omega), ld, Nat.sub_self] at e1
    rw [show us.getLast hne = x from Option.some.inj e1]
    exact e2
theorem GSt.far {n x f b : Nat} {zs : Rw} {G0 : List (Nat × Nat)} (h : GSt n zs x (G0 ++ [(f, b)])) (c : b < x) : ∀ g ∈ G0 ++ [(f, b)], g.2 < x := by
  rcases h.last with ⟨_, h1⟩ | ⟨G1, f1, b1, eG, h0, fx, _⟩
  · exact h1
  · obtain ⟨rfl, e0⟩ := List.append_inj' eG rfl
    obtain ⟨rfl, rfl⟩ := Prod.mk.inj (List.singleton_inj.mp e0)
    intro g hg
    rcases List.mem_append.mp hg with q | q
    · have := h0 g q; omega
    · rw [List.mem_singleton.mp q]; exact c
section
variable {P : Program} {w : World} {K : PySem.W.Frag} {mg : Str → Option Value} {base : Heap}
theorem ok_evenD (T : Txt K mg) : FnOk P w K mg base CX0 1 T.a_law_even_due T.d_law_even_due ["_law_row", "_law_n"] (spRowN evenN) := by
  refine T.D_law_even_due.F.ok sc_law_even_due (fun vs H Q E h => ?_) (fun cdv A outer s H vs Q E hr h => ?_)
  · obtain ⟨zs, n, rfl, _⟩ := h
    rfl
  · obtain ⟨zs, n, rfl, hz, n1, hn, q⟩ := h
    refine ⟨_, (pss_cons (ps_set (i := 2) sc_law_even_due.nd rfl (.inl rfl) (pe_lst pa_nil))
      (pss_cons (ps_for PassesOwn.never rfl (pi_range1 (by rfl) T.n_range (pa_cons (pe_callB call_len_str (by rfl) T.n_len PySem.boot_len (pa_cons (pv 0) pa_nil)) pa_nil)) (pg_name (i := 3) sc_law_even_due.nd rfl (.inl rfl)) (pss_cons (ps_if (PW.pt (pw_and (pt_cmpR op_eq (pe_ix ix_str (pv 0) (pv 3) (fun _ _ => rfl)) pe_str (nomark _)) (pw_and (pt_truth (pv 2) (by intro _; rfl)) (pw_and1 (pt_cmpR op_le (pv 3) (pe_ix ix_tup (pe_ix ix_list (pv 2) (pe_un un_neg pe_int) (fun _ _ => rfl)) pe_int (fun _ _ => rfl)) (nomark _)))))) (pss_one (ps_asg (pe_tup (pa_cons (pe_ix ix_tup (pe_ix ix_list (pv 2) (pe_un un_neg pe_int) (fun _ _ => rfl)) pe_int (fun _ _ => rfl)) (pa_cons (pe_callB (call_max2 (by rfl)) (by rfl) T.n_max (by decide +kernel) (pa_cons (pe_op op_add (pv 3) pe_int) (pa_cons (pe_ix ix_tup (pe_ix ix_list (pv 2) (pe_un un_neg pe_int) (fun _ _ => rfl)) pe_int (fun _ _ => rfl)) pa_nil))) pa_nil))) (pg_sub (pv 2) (pe_un un_neg pe_int) set_list))) (pss_one (ps_if (pt_cmpR op_eq (pe_ix ix_str (pv 0) (pv 3) (fun _ _ => rfl)) pe_str (nomark _)) (pss_one (ps_expr (pe_bm PySem.F.plainAttrs_list PySem.F.slot_list_append PySem.F.type_list_append mt_append (pv 2) (pa_cons (pe_tup (pa_cons (pv 3) (pa_cons (pe_op op_add (pv 3) pe_int) pa_nil))) pa_nil)))) pss_nil)))
      (pss_one (ps_if (PW.pt (pw_and (pt_truth (pv 2) (by intro _; rfl)) (pw_and1 (pt_cmpR op_eq (pe_ix ix_str (pv 0) (pv 3) (fun _ _ => rfl)) pe_str (nomark _))))) (pss_cons (ps_asg (pe_ix ix_list (pv 2) (pe_un un_neg pe_int) (fun _ _ => rfl)) (pg_tup (by rfl) (pgs_cons (pg_name (i := 4) sc_law_even_due.nd rfl (.inl rfl)) (pgs_cons (pg_name (i := 5) sc_law_even_due.nd rfl (.inl rfl)) pgs_nil))))
      (pss_cons (ps_set (i := 6) sc_law_even_due.nd rfl (.inl rfl) (pe_op op_modN (pe_callTy call_int1 (by rfl) T.n_int (by decide +kernel) (pa_cons (pe_op op_sub (pv 1) (pe_op op_modN (pe_callTy call_int1 (by rfl) T.n_int (by decide +kernel) (pa_cons (pe_op op_sub (pv 5) (pv 4)) pa_nil)) (pv 1))) pa_nil)) (pv 1)))
      (pss_one (ps_asg (pe_tup (pa_cons (pv 4) (pa_cons (pe_callB (call_min2 (by rfl)) (by rfl) T.n_min (by decide +kernel) (pa_cons (pe_callB call_len_str (by rfl) T.n_len PySem.boot_len (pa_cons (pv 0) pa_nil)) (pa_cons (pe_op op_add (pv 5) (pv 6)) pa_nil))) pa_nil))) (pg_sub (pv 2) (pe_un un_neg pe_int) set_list))))) pss_nil))))
      (pss_cons (ps_set (i := 7) sc_law_even_due.nd rfl (.inl rfl) (pe_callTy (call_listS (by rfl)) (by rfl) T.n_list (by decide +kernel) (pa_cons (pv 0) pa_nil)))
      (pss_cons (ps_for PassesOwn.never rfl (pi_list (pv 2)) (pg_tup (by rfl) (pgs_cons (pg_name (i := 4) sc_law_even_due.nd rfl (.inl rfl)) (pgs_cons (pg_name (i := 5) sc_law_even_due.nd rfl (.inl rfl)) pgs_nil))) (pss_one (ps_for PassesOwn.never rfl (pi_range2 (by rfl) T.n_range (pa_cons (pv 4) (pa_cons (pv 5) pa_nil))) (pg_name (i := 3) sc_law_even_due.nd rfl (.inl rfl)) (pss_one (ps_asg pe_str (pg_sub (pv 7) (pv 3) set_list))))))
      (pss_one (ps_ret (pe_join pe_str (pv 7)))))))), ?_⟩
    have sz : (mkS zs).length ≤ sizeLine := by rw [mkS_len]; exact big_ok (by omega)
    have nz : ((n : Nat) : Int) ≠ 0 := by omega
    refine ⟨Nat.zero_le _, fun A0 nA => ?_⟩
    refine ⟨_, rfl, mkS zs, rfl, sz, (zs.length : Int), by rw [mkS_len], by omega, by omega, ?_⟩
    rw [toNat_k]
    refine for_it walk_rangeN (fun i σ' H' => ∃ (x3 x4 x5 x6 : Option V) (us : List V) (G : List (Nat × Nat)), σ' = [some (sV zs), some (nV n), some (.ref A0), x3, x4, x5, x6, none] ∧ Same H H' ∧ H' A0 = some (.lst us) ∧ LV (PrR H') us G ∧ GSt n zs i G)
      ⟨none, none, none, none, [], [], rfl, same_upd (Same.refl H) nA, upd_same, LV.nil, GSt.zero n zs⟩ (fun _ _ _ _ _ => trivial) ?_ ?_
    · rintro i x σ1 H1 H2 hi ⟨x3, x4, x5, x6, us, G, rfl, k1, eA, lv, gs⟩ ⟨rfl, rfl⟩
      have lul := lv.1
      have gl := gs.len
      by_cases c : zs.getD i 0 = 35
      · refine ⟨_, rfl, _, rfl, mkS zs, (i : Nat), zs.getD i 0, rfl, rfl, sz, str_at hi, rfl, true, congrArg V.bl ((dec_sign _ _ 35 hash_mk).trans (decide_eq_true c)), ?_⟩
        -- append, as in the second arm
        by_cases hG : G = []
        · subst hG
          have hu : us = [] := List.eq_nil_of_length_eq_zero lul
          subst hu
          refine ⟨_, rfl, false, .inl ⟨_, SqL.of eA, rfl⟩, ?_⟩
          refine ⟨_, rfl, _, rfl, mkS zs, (i : Nat), zs.getD i 0, rfl, rfl, sz, str_at hi, rfl, true, congrArg V.bl ((dec_sign _ _ 35 hash_mk).trans (decide_eq_true c)), ?_⟩
          refine ⟨_, rfl, .inl ⟨rfl, _, SqL.of eA⟩, _, rfl, _, rfl, _, _, rfl, rfl, big_ok (by show 2 ≤ _; omega), fun p np => ?_⟩
          have eA5 := (upd_ne (o := .tup [nV i, .int ((i : Int) + 1)]) (ne_of_none eA np)).trans eA
          have k5 := same_upd (o := .tup [nV i, .int ((i : Int) + 1)]) k1 np
          have ep5 : PrR (upd H2 p (.tup [nV i, .int ((i : Int) + 1)])) (.ref p) (i, i + 1) := PrR.new rfl (by unfold nV; congr 1)
          have lv5 : LV (PrR (upd H2 p (.tup [nV i, .int ((i : Int) + 1)]))) ([] : List V) ([] : List (Nat × Nat)) := lv.mono fun _ _ z => PrR.mn.to z (TK.new (TK.refl _) np)
          generalize upd H2 p (.tup [nV i, .int ((i : Int) + 1)]) = H5 at eA5 k5 ep5 lv5
          refine ⟨A0, _, _, rfl, rfl, eA5, szN (by omega), ?_⟩
          have k6 := same_mut (o := .lst (([] : List V) ++ [.ref p])) k5 nA
          have eA6 : upd H5 A0 (.lst (([] : List V) ++ [.ref p])) A0 = _ := upd_same
          have tm5 : TK H5 (upd H5 A0 (.lst (([] : List V) ++ [.ref p]))) := TK.mut (TK.refl _) eA5
          have lv6 := lv5.mono fun _ _ z => PrR.mn.to z tm5
          obtain ⟨_, ee, ep6⟩ := (PrR.mn.to ep5 tm5).at
          obtain rfl := V.ref.inj ee
          generalize upd H5 A0 (.lst (([] : List V) ++ [.ref p])) = H6 at k6 eA6 lv6 ep6
          refine ⟨_, rfl, true, .inl ⟨_, SqL.of eA6, (emp_app _ _).symm⟩, ?_⟩
          refine ⟨_, rfl, _, rfl, mkS zs, (i : Nat), zs.getD i 0, rfl, rfl, sz, str_at hi, rfl, true, congrArg V.bl ((dec_sign _ _ 35 hash_mk).trans (decide_eq_true c)), ?_⟩
          refine ⟨_, rfl, 1, rfl, A0, _, -1, .ref p, rfl, rfl, SqL.of eA6, atI_last _ _, p, _, rfl, SqT.of ep6, rfl, _, _, rfl, _, _, rfl, rfl, ?_⟩
          refine ⟨_, rfl, _, rfl, _, rfl, _, _, rfl, rfl, .inl ⟨_, rfl, _, rfl, _, _, rfl, rfl, nz, _, _, rfl, rfl, .inl ⟨_, rfl, _, rfl, _, _, rfl, rfl, nz, ?_⟩⟩⟩
          refine ⟨_, rfl, _, rfl, mkS zs, rfl, sz, _, rfl, _, rfl, _, _, rfl, rfl, _, _, rfl, big_ok (by show 2 ≤ _; omega), fun p2 np2 => ?_⟩
          rw [mkS_len, up_val n1 (show i ≤ (i + 1) by omega)]
          have eA7 := (upd_ne (o := .tup [nV i, nV (upTo n zs.length i (i + 1))]) (ne_of_none eA6 np2)).trans eA6
          have k7 := same_upd (o := .tup [nV i, nV (upTo n zs.length i (i + 1))]) k6 np2
          have lv7 : LV (PrR (upd H6 p2 (.tup [nV i, nV (upTo n zs.length i (i + 1))]))) ([] : List V) ([] : List (Nat × Nat)) := lv6.mono fun _ _ z => PrR.mn.to z (TK.new (TK.refl _) np2)
          have ep7 : PrR (upd H6 p2 (.tup [nV i, nV (upTo n zs.length i (i + 1))])) (.ref p2) (i, upTo n zs.length i (i + 1)) := PrR.new rfl rfl
          refine ⟨_, rfl, 1, rfl, A0, _, _, _, rfl, rfl, eA7, ixN_end _ _, ?_⟩
          rw [set_last]
          have tm : TK (upd H6 p2 (.tup [nV i, nV (upTo n zs.length i (i + 1))])) (upd (upd H6 p2 (.tup [nV i, nV (upTo n zs.length i (i + 1))])) A0 (.lst (([] : List V) ++ [.ref p2]))) := TK.mut (TK.refl _) eA7
          exact ⟨_, _, _, _, _, _, rfl, same_mut k7 nA, upd_same, (lv7.snoc ep7).mono fun _ _ z => PrR.mn.to z tm, GSt.new gs n1 hi c (fun g h => nomatch h)⟩
        · obtain ⟨G0, g, rfl⟩ : ∃ G0 g, G = G0 ++ [g] := ⟨G.dropLast, G.getLast hG, (List.dropLast_concat_getLast hG).symm⟩
          obtain ⟨us0, u, rfl, lv0, hu⟩ := lv.split
          obtain ⟨f, b⟩ := g
          obtain ⟨p0, rfl, ep⟩ := hu.at
          have ep : H2 p0 = some (.tup [nV f, nV b]) := ep
          have gb := gs.lt (f, b) (List.mem_append_right _ (List.mem_singleton.mpr rfl))
          have gb1 : f < b := gb.1
          refine ⟨_, rfl, true, .inl ⟨_, SqL.of eA, (emp_app _ _).symm⟩, ?_⟩
          refine ⟨_, rfl, _, rfl, 1, rfl, A0, _, -1, .ref p0, rfl, rfl, SqL.of eA, atI_last _ _, p0, _, _, _, rfl, rfl, SqT.of ep, atI_nat (j := 1) rfl, _, _, rfl, rfl, ?_⟩
          by_cases cb : i ≤ b
          · refine ⟨true, bTr (by omega), ?_⟩
            refine ⟨_, rfl, 1, rfl, A0, _, -1, .ref p0, rfl, rfl, SqL.of eA, atI_last _ _, p0, _, _, _, rfl, rfl, SqT.of ep, atI_nat (j := 0) rfl, _, rfl, _, _, rfl, rfl, _, rfl, 1, rfl, A0, _, -1, .ref p0, rfl, rfl, SqL.of eA, atI_last _ _, p0, _, _, _, rfl, rfl, SqT.of ep, atI_nat (j := 1) rfl, _, _, rfl, big_ok (by show 2 ≤ _; omega), fun p np => ?_⟩
            rw [show V.int (if ((b : Nat) : Int) > ((i : Nat) : Int) + 1 then ((b : Nat) : Int) else ((i : Nat) : Int) + 1) = nV (max (i + 1) b) from by unfold nV; congr 1; split <;> omega]
            have eA5 := (upd_ne (o := .tup [nV f, nV (max (i + 1) b)]) (ne_of_none eA np)).trans eA
            have k5 := same_upd (o := .tup [nV f, nV (max (i + 1) b)]) k1 np
            have ep5 : PrR (upd H2 p (.tup [nV f, nV (max (i + 1) b)])) (.ref p) (f, max (i + 1) b) := PrR.new rfl rfl
            have lv5 : LV (PrR (upd H2 p (.tup [nV f, nV (max (i + 1) b)]))) us0 G0 := lv0.mono fun _ _ z => PrR.mn.to z (TK.new (TK.refl _) np)
            generalize upd H2 p (.tup [nV f, nV (max (i + 1) b)]) = H5 at eA5 k5 ep5 lv5
            refine ⟨_, rfl, 1, rfl, A0, _, _, _, rfl, rfl, eA5, ixN_end _ _, ?_⟩
            rw [set_last]
            have k6 := same_mut (o := .lst (us0 ++ [.ref p])) k5 nA
            have eA6 : upd H5 A0 (.lst (us0 ++ [.ref p])) A0 = _ := upd_same
            have tm5 : TK H5 (upd H5 A0 (.lst (us0 ++ [.ref p]))) := TK.mut (TK.refl _) eA5
            have lv6 := lv5.mono fun _ _ z => PrR.mn.to z tm5
            obtain ⟨_, ee, ep6⟩ := (PrR.mn.to ep5 tm5).at
            obtain rfl := V.ref.inj ee
            generalize upd H5 A0 (.lst (us0 ++ [.ref p])) = H6 at k6 eA6 lv6 ep6
            refine ⟨_, rfl, true, .inl ⟨_, SqL.of eA6, (emp_app _ _).symm⟩, ?_⟩
            refine ⟨_, rfl, _, rfl, mkS zs, (i : Nat), zs.getD i 0, rfl, rfl, sz, str_at hi, rfl, true, congrArg V.bl ((dec_sign _ _ 35 hash_mk).trans (decide_eq_true c)), ?_⟩
            refine ⟨_, rfl, 1, rfl, A0, _, -1, .ref p, rfl, rfl, SqL.of eA6, atI_last _ _, p, _, rfl, SqT.of ep6, rfl, _, _, rfl, _, _, rfl, rfl, ?_⟩
            refine ⟨_, rfl, _, rfl, _, rfl, _, _, rfl, rfl, .inl ⟨_, rfl, _, rfl, _, _, rfl, rfl, nz, _, _, rfl, rfl, .inl ⟨_, rfl, _, rfl, _, _, rfl, rfl, nz, ?_⟩⟩⟩
            refine ⟨_, rfl, _, rfl, mkS zs, rfl, sz, _, rfl, _, rfl, _, _, rfl, rfl, _, _, rfl, big_ok (by show 2 ≤ _; omega), fun p2 np2 => ?_⟩
            rw [mkS_len, up_val n1 (show f ≤ (max (i + 1) b) by omega)]
            have eA7 := (upd_ne (o := .tup [nV f, nV (upTo n zs.length f (max (i + 1) b))]) (ne_of_none eA6 np2)).trans eA6
            have k7 := same_upd (o := .tup [nV f, nV (upTo n zs.length f (max (i + 1) b))]) k6 np2
            have lv7 : LV (PrR (upd H6 p2 (.tup [nV f, nV (upTo n zs.length f (max (i + 1) b))]))) us0 G0 := lv6.mono fun _ _ z => PrR.mn.to z (TK.new (TK.refl _) np2)
            have ep7 : PrR (upd H6 p2 (.tup [nV f, nV (upTo n zs.length f (max (i + 1) b))])) (.ref p2) (f, upTo n zs.length f (max (i + 1) b)) := PrR.new rfl rfl
            refine ⟨_, rfl, 1, rfl, A0, _, _, _, rfl, rfl, eA7, ixN_end _ _, ?_⟩
            rw [set_last]
            have tm : TK (upd H6 p2 (.tup [nV f, nV (upTo n zs.length f (max (i + 1) b))])) (upd (upd H6 p2 (.tup [nV f, nV (upTo n zs.length f (max (i + 1) b))])) A0 (.lst (us0 ++ [.ref p2]))) := TK.mut (TK.refl _) eA7
            exact ⟨_, _, _, _, _, _, rfl, same_mut k7 nA, upd_same, (lv7.snoc ep7).mono fun _ _ z => PrR.mn.to z tm, GSt.grow gs n1 hi c cb⟩
          · refine ⟨false, bFa (by omega), ?_⟩
            refine ⟨_, rfl, _, rfl, mkS zs, (i : Nat), zs.getD i 0, rfl, rfl, sz, str_at hi, rfl, true, congrArg V.bl ((dec_sign _ _ 35 hash_mk).trans (decide_eq_true c)), ?_⟩
            refine ⟨_, rfl, .inl ⟨rfl, _, SqL.of eA⟩, _, rfl, _, rfl, _, _, rfl, rfl, big_ok (by show 2 ≤ _; omega), fun p np => ?_⟩
            have eA5 := (upd_ne (o := .tup [nV i, .int ((i : Int) + 1)]) (ne_of_none eA np)).trans eA
            have k5 := same_upd (o := .tup [nV i, .int ((i : Int) + 1)]) k1 np
            have ep5 : PrR (upd H2 p (.tup [nV i, .int ((i : Int) + 1)])) (.ref p) (i, i + 1) := PrR.new rfl (by unfold nV; congr 1)
            have lv5 : LV (PrR (upd H2 p (.tup [nV i, .int ((i : Int) + 1)]))) (us0 ++ [.ref p0]) (G0 ++ [(f, b)]) := lv.mono fun _ _ z => PrR.mn.to z (TK.new (TK.refl _) np)
            generalize upd H2 p (.tup [nV i, .int ((i : Int) + 1)]) = H5 at eA5 k5 ep5 lv5
            refine ⟨A0, _, _, rfl, rfl, eA5, szN (by omega), ?_⟩
            have k6 := same_mut (o := .lst ((us0 ++ [.ref p0]) ++ [.ref p])) k5 nA
            have eA6 : upd H5 A0 (.lst ((us0 ++ [.ref p0]) ++ [.ref p])) A0 = _ := upd_same
            have tm5 : TK H5 (upd H5 A0 (.lst ((us0 ++ [.ref p0]) ++ [.ref p]))) := TK.mut (TK.refl _) eA5
            have lv6 := lv5.mono fun _ _ z => PrR.mn.to z tm5
            obtain ⟨_, ee, ep6⟩ := (PrR.mn.to ep5 tm5).at
            obtain rfl := V.ref.inj ee
            generalize upd H5 A0 (.lst ((us0 ++ [.ref p0]) ++ [.ref p])) = H6 at k6 eA6 lv6 ep6
            refine ⟨_, rfl, true, .inl ⟨_, SqL.of eA6, (emp_app _ _).symm⟩, ?_⟩
            refine ⟨_, rfl, _, rfl, mkS zs, (i : Nat), zs.getD i 0, rfl, rfl, sz, str_at hi, rfl, true, congrArg V.bl ((dec_sign _ _ 35 hash_mk).trans (decide_eq_true c)), ?_⟩
            refine ⟨_, rfl, 1, rfl, A0, _, -1, .ref p, rfl, rfl, SqL.of eA6, atI_last _ _, p, _, rfl, SqT.of ep6, rfl, _, _, rfl, _, _, rfl, rfl, ?_⟩
            refine ⟨_, rfl, _, rfl, _, rfl, _, _, rfl, rfl, .inl ⟨_, rfl, _, rfl, _, _, rfl, rfl, nz, _, _, rfl, rfl, .inl ⟨_, rfl, _, rfl, _, _, rfl, rfl, nz, ?_⟩⟩⟩
            refine ⟨_, rfl, _, rfl, mkS zs, rfl, sz, _, rfl, _, rfl, _, _, rfl, rfl, _, _, rfl, big_ok (by show 2 ≤ _; omega), fun p2 np2 => ?_⟩
            rw [mkS_len, up_val n1 (show i ≤ (i + 1) by omega)]
            have eA7 := (upd_ne (o := .tup [nV i, nV (upTo n zs.length i (i + 1))]) (ne_of_none eA6 np2)).trans eA6
            have k7 := same_upd (o := .tup [nV i, nV (upTo n zs.length i (i + 1))]) k6 np2
            have lv7 : LV (PrR (upd H6 p2 (.tup [nV i, nV (upTo n zs.length i (i + 1))]))) (us0 ++ [.ref p0]) (G0 ++ [(f, b)]) := lv6.mono fun _ _ z => PrR.mn.to z (TK.new (TK.refl _) np2)
            have ep7 : PrR (upd H6 p2 (.tup [nV i, nV (upTo n zs.length i (i + 1))])) (.ref p2) (i, upTo n zs.length i (i + 1)) := PrR.new rfl rfl
            refine ⟨_, rfl, 1, rfl, A0, _, _, _, rfl, rfl, eA7, ixN_end _ _, ?_⟩
            rw [set_last]
            have tm : TK (upd H6 p2 (.tup [nV i, nV (upTo n zs.length i (i + 1))])) (upd (upd H6 p2 (.tup [nV i, nV (upTo n zs.length i (i + 1))])) A0 (.lst ((us0 ++ [.ref p0]) ++ [.ref p2]))) := TK.mut (TK.refl _) eA7
            exact ⟨_, _, _, _, _, _, rfl, same_mut k7 nA, upd_same, (lv7.snoc ep7).mono fun _ _ z => PrR.mn.to z tm, GSt.new gs n1 hi c (gs.far (by omega))⟩
      · refine ⟨_, rfl, _, rfl, mkS zs, (i : Nat), zs.getD i 0, rfl, rfl, sz, str_at hi, rfl, false, congrArg V.bl ((dec_sign _ _ 35 hash_mk).trans (decide_eq_false c)), ?_⟩
        refine ⟨_, rfl, _, rfl, mkS zs, (i : Nat), zs.getD i 0, rfl, rfl, sz, str_at hi, rfl, false, congrArg V.bl ((dec_sign _ _ 35 hash_mk).trans (decide_eq_false c)), ?_⟩
        have gn := GSt.none gs n1 hi c
        by_cases hu : us = []
        · subst hu
          exact ⟨_, rfl, false, .inl ⟨_, SqL.of eA, rfl⟩, _, _, _, _, _, _, rfl, k1, eA, lv, gn⟩
        · refine ⟨_, rfl, true, .inl ⟨_, SqL.of eA, by cases us with | nil => exact absurd rfl hu | cons _ _ => rfl⟩, ?_⟩
          exact ⟨_, rfl, _, rfl, mkS zs, (i : Nat), zs.getD i 0, rfl, rfl, sz, str_at hi, rfl, false, congrArg V.bl ((dec_sign _ _ 35 hash_mk).trans (decide_eq_false c)), _, _, _, _, _, _, rfl, k1, eA, lv, gn⟩
    · rintro σ1 H1 ⟨x3, x4, x5, x6, us, G, rfl, k1, eA, lv, gs⟩
      have gl := gs.len
      have lul := lv.1
      refine ⟨_, rfl, zs, rfl, big_ok (by omega), fun C nC => ?_⟩
      have nCH : H C = none := by
        cases z : H C with
        | none => rfl
        | some o => rw [k1 _ _ z] at nC; cases nC
      have nAC : A0 ≠ C := ne_of_none eA nC
      have k2 := same_upd (o := .lst (zs.map fun c => sV [c])) k1 nC
      have eA2 := (upd_ne (o := .lst (zs.map fun c => sV [c])) nAC).trans eA
      have eC2 : upd H1 C (.lst (zs.map fun c => sV [c])) C = some (.lst ((pntN zs (G.take 0)).map fun c => sV [c])) := by rw [List.take_zero, pnt_nil]; exact upd_same
      have lv2 : LV (PrR (upd H1 C (.lst (zs.map fun c => sV [c])))) us G := lv.mono fun _ _ z => PrR.mn.to z (TK.new (TK.refl _) nC)
      generalize upd H1 C (.lst (zs.map fun c => sV [c])) = H2 at k2 eA2 eC2 lv2
      refine ⟨_, rfl, A0, rfl, ⟨_, SqL.of eA2⟩, ?_⟩
      refine for_it (walk_list (K := K) (a := A0) (xs := us)) (fun i σ' H' => ∃ (x3 x4 x5 x6 : Option V), σ' = [some (sV zs), some (nV n), some (.ref A0), x3, x4, x5, x6, some (.ref C)] ∧ Same H H' ∧ H' A0 = some (.lst us) ∧ LV (PrR H') us G ∧ H' C = some (.lst ((pntN zs (G.take i)).map fun c => sV [c])))
        ⟨x3, x4, x5, x6, rfl, k2, eA2, lv2, eC2⟩ ?_ ?_ ?_
      · rintro i σ2 H3 _ ⟨_, _, _, _, _, _, e, _⟩
        exact SqL.of e
      · rintro i x σ2 H3 H4 hi ⟨x3, x4, x5, x6, rfl, k3, eA3, lv3, eC3⟩ ⟨rfl, hx⟩
        obtain ⟨g, eg, hg⟩ := lv3.at hx
        obtain ⟨f, b⟩ := g
        obtain ⟨p0, rfl, ep⟩ := hg.at
        have ep : H4 p0 = some (.tup [nV f, nV b]) := ep
        have gb := gs.lt (f, b) (List.mem_of_getElem? eg)
        have gb1 : f < b := gb.1
        have gb2 : b ≤ zs.length := gb.2
        rw [take_one eg]
        refine ⟨p0, _, rfl, SqT.of ep, rfl, _, _, rfl, _, _, rfl, rfl, ?_⟩
        refine ⟨_, rfl, _, rfl, _, _, rfl, ⟨by omega, by omega, by omega, by omega⟩, ?_⟩
        rw [show (((b : Nat) : Int) - ((f : Nat) : Int)).toNat = b - f by omega]
        refine for_it (walk_range (lo := ((f : Nat) : Int)) (n := b - f)) (fun j σ' H' => ∃ (x3 : Option V), σ' = [some (sV zs), some (nV n), some (.ref A0), x3, some (nV f), some (nV b), x6, some (.ref C)] ∧ Same H H' ∧ H' A0 = some (.lst us) ∧ LV (PrR H') us G ∧ H' C = some (.lst ((pntN zs (G.take i ++ [(f, f + j)])).map fun c => sV [c])))
          ⟨x3, rfl, k3, eA3, lv3, by rw [Nat.add_zero, pnt_empty]; exact eC3⟩ (fun _ _ _ _ _ => trivial) ?_ ?_
        · rintro j y σ3 H5 H6 hj ⟨x3, rfl, k5, eA5, lv5, eC5⟩ ⟨rfl, rfl⟩
          have pl : (pntN zs (G.take i ++ [(f, f + j)])).length = zs.length := by unfold pntN; rw [List.length_map, List.length_range]
          refine ⟨_, rfl, _, rfl, C, _, _, f + j, rfl, rfl, eC5, ?_, ?_⟩
          · rw [List.length_map, pl]
            unfold ixN
            rw [if_pos (by omega), if_pos (by omega)]
            congr 1
          · rw [show (V.str ("#" : Str) : V) = sV [35] from by rw [hash_mk]; rfl, ← List.map_set (f := fun c => sV [c]), pnt_set zs _ f (f + j) (by omega) (by omega)]
            exact ⟨_, rfl, same_mut k5 nCH, (upd_ne nAC).trans eA5, lv5.mono fun _ _ z => PrR.mn.to z (TK.mut (TK.refl _) eC5), upd_same⟩
        · rintro σ3 H5 ⟨x3, rfl, k5, eA5, lv5, eC5⟩
          rw [show f + (b - f) = b by omega] at eC5
          exact ⟨_, _, _, _, rfl, k5, eA5, lv5, eC5⟩
      · rintro σ2 H3 ⟨x3, x4, x5, x6, rfl, k3, eA3, lv3, eC3⟩
        rw [lul, List.take_length] at eC3
        have eC3 : H3 C = some (.lst ((evenN n zs).map fun c => sV [c])) := by rw [even_cov gs]; exact eC3
        refine ⟨⟨_, rfl⟩, _, rfl, _, C, ((evenN n zs).map fun c => [c]).map mkS, rfl, rfl, .inl (SqL.of (by rw [eC3, sgs_V])), sgs_sz (by unfold evenN; rw [List.length_map, List.length_range]; exact hz), ?_⟩
        rw [join_sgs]
        exact q _ k3
end
end Vf

set_option Elab.async false
set_option linter.all false
set_option maxRecDepth 100000
set_option maxHeartbeats 4000000
namespace Vf
open PySem PySem.Spec PyProof.Rows L2 TL
def rowK : Nat → Nat → Rw → Rw
  | 0, n => wideN n
  | 1, n => evenN n
  | 3, _ => rowsN
  | _, _ => wholeN
theorem StpR.name {H : Hp} {sa : Addr} {k n : Nat} (es : H sa = some (.tup (if k < 3 then [V.str (nmS k), nV n] else [V.str (nmS k)]))) : (∃ tl, H sa = some (.tup (V.str (nmS k) :: tl))) ∧ (k < 3 → H sa = some (.tup [V.str (nmS k), nV n])) := by
  refine ⟨?_, fun c => by rw [es, if_pos c]⟩
  by_cases c : k < 3
  · exact ⟨_, by rw [es, if_pos c]⟩
  · exact ⟨_, by rw [es, if_neg c]⟩
theorem pg_at {p : Pg} {k : Nat} (h : k < p.length) : (p.map sV)[k]? = some (sV (p.getD k [])) := by
  rw [List.getElem?_map, List.getD_eq_getElem?_getD, List.getElem?_eq_getElem h]; rfl
theorem hit_mem (p : Pg) (j : Nat) : decide (j ∈ ((List.range p.length).filter fun k => hasC (p.getD k [])).map (mkB p)) = hitB p j := by
  cases e : hitB p j with
  | true =>
    obtain ⟨k, hk, h⟩ := List.any_eq_true.mp e
    rw [Bool.and_eq_true] at h
    exact decide_eq_true (List.mem_map.mpr ⟨k, List.mem_filter.mpr ⟨hk, h.1⟩, of_decide_eq_true h.2⟩)
  | false =>
    refine decide_eq_false fun h => ?_
    obtain ⟨k, hk, h2⟩ := List.mem_map.mp h
    have ⟨h3, h4⟩ := List.mem_filter.mp hk
    have := List.any_eq_false.mp e k h3
    rw [h4, h2, decide_eq_true rfl] at this
    exact this rfl
section
variable {P : Program} {w : World} {K : PySem.W.Frag} {mg : Str → Option Value} {base : Heap}
def spRowD : Sp := fun vs H Q _ => ∃ (sv : V) (k n : Nat) (r : Rw), vs = [sv, sV r] ∧ StpR H sv (k, n) ∧ StOk (k, n) ∧ (k = 0 ∨ k = 1 ∨ k = 3 ∨ k = 7) ∧ r.length ≤ 1000 ∧ ∀ H', Same H H' → Q (sV (rowK k n r)) H'
theorem ok_rowD (T : Txt K mg) : FnOk P w K mg base CX0 2 T.a_law_row_due T.d_law_row_due ["_law_step", "_law_row"] spRowD := by
  have G_law_wide_due : FnOk P w K mg base CX0 1 T.a_law_wide_due T.d_law_wide_due ["_law_row", "_law_n"] (spRowN wideN) := ok_wideD T
  have G_law_even_due : FnOk P w K mg base CX0 1 T.a_law_even_due T.d_law_even_due ["_law_row", "_law_n"] (spRowN evenN) := ok_evenD T
  refine T.D_law_row_due.F.ok sc_law_row_due (fun vs H Q E h => ?_) (fun cdv A outer s H vs Q E hr h => ?_)
  · obtain ⟨sv, k, n, r, rfl, _⟩ := h
    rfl
  · obtain ⟨sv, k, n, r, rfl, ⟨sa, rfl, es⟩, ⟨hk, hn1, hn⟩, hkk, hl, q⟩ := h
    have hk : k < 8 := hk
    have hn1 : 1 ≤ n := hn1
    have hn : n ≤ 1000 := hn
    obtain ⟨⟨tl, e0⟩, h1⟩ := StpR.name es
    have ne := fun j hj => nm_eq k hk j hj
    refine ⟨_, (pss_cons (ps_if (pt_cmpR op_eq (pe_ix ix_tup (pv 0) pe_int (fun _ _ => rfl)) pe_str (nomark _)) (pss_one (ps_ret (pe_call G_law_wide_due (hr.mono (by decide)) (by rfl) T.D_law_wide_due.G T.D_law_wide_due.F.kp T.D_law_wide_due.B .nil pass0 (pa_cons (pv 1) (pa_cons (pe_ix ix_tup (pv 0) pe_int (fun _ _ => rfl)) pa_nil))))) pss_nil)
      (pss_cons (ps_if (pt_cmpR op_eq (pe_ix ix_tup (pv 0) pe_int (fun _ _ => rfl)) pe_str (nomark _)) (pss_one (ps_ret (pe_call G_law_even_due (hr.mono (by decide)) (by rfl) T.D_law_even_due.G T.D_law_even_due.F.kp T.D_law_even_due.B .nil pass0 (pa_cons (pv 1) (pa_cons (pe_ix ix_tup (pv 0) pe_int (fun _ _ => rfl)) pa_nil))))) pss_nil)
      (pss_one (ps_ret (pe_ifExp (PW.pt (pw_or (pt_cmpR op_eq (pe_ix ix_tup (pv 0) pe_int (fun _ _ => rfl)) pe_str (nomark _)) (pw_or1 (pt_cmpR op_in_sign pe_str (pv 1) (by rfl))))) (pe_op op_mul_str pe_str (pe_callB call_len_str (by rfl) T.n_len PySem.boot_len (pa_cons (pv 1) pa_nil))) (pv 1)))))), ?_⟩
    refine ⟨_, rfl, sa, _, _, _, rfl, rfl, SqT.of e0, atI_nat (j := 0) rfl, rfl, _, congrArg V.bl (ne 0 (by decide)), ?_⟩
    by_cases k0 : k = 0
    · subst k0
      exact ⟨_, rfl, _, rfl, sa, _, _, _, rfl, rfl, SqT.of (h1 (show (0 : Nat) < 3 by decide)), atI_nat (j := 1) rfl, r, n, rfl, hl, hn1, hn, q⟩
    rw [decide_eq_false k0]
    refine ⟨_, rfl, sa, _, _, _, rfl, rfl, SqT.of e0, atI_nat (j := 0) rfl, rfl, _, congrArg V.bl (ne 1 (by decide)), ?_⟩
    by_cases k1 : k = 1
    · subst k1
      exact ⟨_, rfl, _, rfl, sa, _, _, _, rfl, rfl, SqT.of (h1 (show (1 : Nat) < 3 by decide)), atI_nat (j := 1) rfl, r, n, rfl, hl, hn1, hn, q⟩
    rw [decide_eq_false k1]
    have wh : sV (wholeN r) = V.str (Txt.mul ("#" : Str) (((mkS r).length : Nat) : Int)) := by rw [hash_mk, mkS_len, mul_sign]; rfl
    refine ⟨_, rfl, sa, _, _, _, rfl, rfl, SqT.of e0, atI_nat (j := 0) rfl, rfl, _, congrArg V.bl (ne 7 (by decide)), ?_⟩
    by_cases k7 : k = 7
    · subst k7
      have q7 := q H (Same.refl H)
      rw [show rowK 7 n r = wholeN r from rfl, wh] at q7
      exact ⟨_, rfl, mkS r, rfl, by rw [mkS_len]; exact big_ok (by omega), _, _, rfl, rfl, by rw [mkS_len]; exact mul_okN (by omega) (by decide), q7⟩
    rw [decide_eq_false k7]
    have k3 : k = 3 := by omega
    subst k3
    have q3 := q H (Same.refl H)
    rw [show sV (rowK 3 n r) = if hasC r = true then sV (wholeN r) else sV r from by show sV (rowsN r) = _; unfold rowsN; split <;> rfl] at q3
    refine ⟨_, rfl, 35, mkS r, by rw [hash_mk]; rfl, rfl, _, rfl, ?_⟩
    rw [in_hash]
    generalize hasC r = hc at q3
    cases hc with
    | true =>
      rw [if_pos rfl, wh] at q3
      exact ⟨_, rfl, mkS r, rfl, by rw [mkS_len]; exact big_ok (by omega), _, _, rfl, rfl, by rw [mkS_len]; exact mul_okN (by omega) (by decide), q3⟩
    | false => exact ⟨_, rfl, q3⟩
theorem ok_blocksD (T : Txt K mg) : FnOk P w K mg base CX0 1 T.a_law_blocks_due T.d_law_blocks_due ["_law_page"] spBlocksP := by
  refine T.D_law_blocks_due.F.ok sc_law_blocks_due (fun vs H Q E h => ?_) (fun cdv A outer s H vs Q E hr h => ?_)
  · obtain ⟨v, p, rfl, _⟩ := h
    rfl
  · obtain ⟨v, p, rfl, hp, ⟨hl, hok⟩, q⟩ := h
    obtain ⟨a, rfl, ea⟩ := PgR.iff.mp hp
    refine ⟨_, (pss_cons (ps_set (i := 1) sc_law_blocks_due.nd rfl (.inr rfl) (pe_lst pa_nil))
      (pss_cons (ps_set (i := 2) sc_law_blocks_due.nd rfl (.inl rfl) pe_int)
      (pss_cons (ps_for PassesOwn.never rfl (pi_tup (pv 0)) (pg_name (i := 3) sc_law_blocks_due.nd rfl (.inl rfl)) (pss_cons (ps_if (pt_cmpR op_eq (pv 3) (pe_op op_mul_str pe_str (pe_callB call_len_str (by rfl) T.n_len PySem.boot_len (pa_cons (pv 3) pa_nil))) (nomark _)) (pss_one (ps_set (i := 2) sc_law_blocks_due.nd rfl (.inl rfl) (pe_op op_add (pv 2) pe_int))) pss_nil)
      (pss_one (ps_expr (pe_bm PySem.F.plainAttrs_list PySem.F.slot_list_append PySem.F.type_list_append mt_append (pv 1) (pa_cons (pv 2) pa_nil))))))
      (pss_cons (ps_setLc (i := 4) (own := [("_law_k", 6)]) (g := gName 6) rfl sc_law_blocks_due.nd rfl rfl (sw_true rfl rfl rfl (by decide +kernel)) (pi_range1 (by rfl) T.n_range (pa_cons (pe_callB call_len_seq (by rfl) T.n_len PySem.boot_len (pa_cons (pv 0) pa_nil)) pa_nil)) (blkOk_by (own := [("_law_k", 6)]) (N := ["_law_page", "_law_marks", "_law_run", "_law_row", "_law_hit", "_law_rows", "_law_k", "_law_blank"]) (sc := (defScope s_law_blocks_due)) (by decide +kernel)) (fun _ _ _ _ _ => (pg_name (i := 6) sc_law_blocks_due.nd rfl (.inl rfl))) (fun _ _ _ _ _ => (pts_one (pt_cmpR op_in_sign pe_str (pe_ix (r := rIxT K) ix_tup (pv 0) (pv 6) (fun _ _ => rfl)) (by rfl)))) (fun _ _ _ _ _ => (pe_ix (r := rIxL K) ix_list (pv 1) (pv 6) (fun _ _ => rfl))))
      (pss_cons (ps_set (i := 5) sc_law_blocks_due.nd rfl (.inl rfl) (pe_lst pa_nil))
      (pss_cons (ps_for PassesOwn.never rfl (pi_range1 (by rfl) T.n_range (pa_cons (pe_callB call_len_seq (by rfl) T.n_len PySem.boot_len (pa_cons (pv 0) pa_nil)) pa_nil)) (pg_name (i := 6) sc_law_blocks_due.nd rfl (.inl rfl)) (pss_cons (ps_set (i := 7) sc_law_blocks_due.nd rfl (.inl rfl) (pe_cmpR op_eq (pe_ix ix_tup (pv 0) (pv 6) (fun _ _ => rfl)) (pe_op op_mul_str pe_str (pe_callB call_len_str (by rfl) T.n_len PySem.boot_len (pa_cons (pe_ix ix_tup (pv 0) (pv 6) (fun _ _ => rfl)) pa_nil))) (nomark _)))
      (pss_one (ps_expr (pe_bm PySem.F.plainAttrs_list PySem.F.slot_list_append PySem.F.type_list_append mt_append (pv 5) (pa_cons (pe_ifExp (PW.pt (pw_and (pt_cmpR op_in_seq (pe_ix ix_list (pv 1) (pv 6) (fun _ _ => rfl)) (pv 4) (by rfl)) (pw_and1 (pt_not (pt_val (pv 7)))))) (pe_op op_mul_str pe_str (pe_callB call_len_str (by rfl) T.n_len PySem.boot_len (pa_cons (pe_ix ix_tup (pv 0) (pv 6) (fun _ _ => rfl)) pa_nil))) (pe_ix ix_tup (pv 0) (pv 6) (fun _ _ => rfl))) pa_nil))))))
      (pss_one (ps_ret (pe_callTy call_tuple_of (by rfl) T.n_tuple (by decide +kernel) (pa_cons (pv 5) pa_nil)))))))))), ?_⟩
    refine ⟨Nat.zero_le _, fun M nM => ?_⟩
    have k0 := same_upd (o := .lst []) (Same.refl H) nM
    have eM0 : upd H M (.lst []) M = some (.lst []) := upd_same
    generalize upd H M (.lst []) = H0 at k0 eM0
    refine ⟨_, rfl, a, rfl, ⟨_, SqT.of (k0 _ _ ea)⟩, ?_⟩
    refine for_it (walk_tup (K := K) (a := a) (xs := p.map sV)) (fun i σ' H' => ∃ (x3 : Option V), σ' = [some (.ref a), some (.ref M), some (nV (mkL (p.take i))), x3, none, none, none, none] ∧ Same H H' ∧ H' M = some (.lst (((List.range i).map (mkB p)).map nV)))
      ⟨none, rfl, k0, eM0⟩ ?_ ?_ ?_
    · rintro i σ1 H1 _ ⟨_, _, k, _⟩
      exact SqT.of (k _ _ ea)
    · rintro i x σ1 H1 H2 hi ⟨x3, rfl, k1, eM⟩ ⟨rfl, hx⟩
      rw [List.length_map] at hi
      have hr : p[i]? = some p[i] := List.getElem?_eq_getElem hi
      rw [List.getElem?_map, hr] at hx
      have hx := (Option.some.inj hx).symm
      subst hx
      have hz := hok _ (List.getElem_mem hi)
      have em : mkL (p.take (i + 1)) = mkL (p.take i) + if blankN p[i] = true then 1 else 0 := by rw [take_one hr, mkL_snoc]
      have emb : mkB p i = mkL (p.take (i + 1)) := rfl
      generalize p[i] = r at hr em hz
      have fin : ∀ (m : Nat) (x2 : V) (x3 : Option V), m = mkL (p.take (i + 1)) → x2 = nV m → ∃ (x3' : Option V), [some (.ref a), some (.ref M), some x2, x3, none, none, none, none] = [some (.ref a), some (.ref M), some (nV (mkL (p.take (i + 1)))), x3', none, none, none, none] ∧ Same H (upd H2 M (.lst (((List.range i).map (mkB p)).map nV ++ [x2]))) ∧ upd H2 M (.lst (((List.range i).map (mkB p)).map nV ++ [x2])) M = some (.lst (((List.range (i + 1)).map (mkB p)).map nV)) := fun m x2 x3 e e2 => by
        subst e2 e
        refine ⟨x3, rfl, same_mut k1 nM, ?_⟩
        rw [List.range_succ, List.map_append, List.map_append]
        exact upd_same
      have ln : (((List.range i).map (mkB p)).map nV).length < sizeLine := szN (by rw [List.length_map, List.length_map, List.length_range]; omega)
      refine ⟨_, rfl, _, rfl, mkS r, rfl, by rw [mkS_len]; exact big_ok (by omega), _, _, rfl, rfl, by rw [mkS_len]; exact mul_okN (by omega) (by decide), rfl, blankN r, by rw [blank_mk, mkS_len, mul_sign]; exact congrArg V.bl (dec_blank r _ rfl), ?_⟩
      by_cases hb : blankN r = true
      · rw [if_pos hb] at em
        rw [hb]
        exact ⟨_, rfl, _, _, rfl, rfl, _, rfl, .inl ⟨rfl, _, SqL.of eM⟩, _, rfl, M, _, _, rfl, rfl, eM, ln, fin (mkL (p.take i) + 1) _ _ em.symm rfl⟩
      · rw [if_neg hb, Nat.add_zero] at em
        rw [Bool.eq_false_iff.mpr hb]
        exact ⟨_, rfl, .inl ⟨rfl, _, SqL.of eM⟩, _, rfl, M, _, _, rfl, rfl, eM, ln, fin _ _ _ em.symm rfl⟩
    · rintro σ1 H1 ⟨x3, rfl, k1, eM⟩
      rw [List.length_map] at eM
      have ea1 := k1 _ _ ea
      have mk_at : ∀ k, k < p.length → (((List.range p.length).map (mkB p)).map nV)[k]? = some (nV (mkB p k)) := fun k h => by
        rw [List.getElem?_map, List.getElem?_map, List.getElem?_range h]; rfl
      refine ⟨_, rfl, a, _, rfl, .inr (SqT.of ea1), (p.length : Int), by rw [List.length_map], by omega, by omega, ?_⟩
      rw [toNat_k]
      refine lc_fil walk_rangeN (p := fun k => hasC (p.getD k [])) (f := fun k => nV (mkB p k)) (fun _ _ => trivial) (by omega) (fun i H2 QQ NN hi k2 hy hn => ?_) fun B H2 nB k2 eB => ?_
      · refine ⟨rfl, _, rfl, _, rfl, a, _, (i : Int), _, rfl, rfl, SqT.of (k2 _ _ ea1), atI_nat (pg_at hi), 35, mkS (p.getD i []), by rw [hash_mk]; rfl, rfl, hasC (p.getD i []), congrArg V.bl (in_hash _), ?_⟩
        by_cases c : hasC (p.getD i []) = true
        · rw [c]
          exact ⟨_, rfl, _, rfl, M, _, (i : Int), _, rfl, rfl, SqL.of (k2 _ _ eM), atI_nat (mk_at i hi), hy c _ _ (Same.refl _) rfl⟩
        · rw [Bool.eq_false_iff.mpr c]
          exact hn (Bool.eq_false_iff.mpr c) _ (Same.refl _)
      · have eB : H2 B = some (.lst ((((List.range p.length).filter fun k => hasC (p.getD k [])).map (mkB p)).map nV)) := by rw [eB, List.map_map]; rfl
        have k12 := k1.trans k2
        have eM2 := k2 _ _ eM
        refine ⟨Nat.zero_le _, fun R nR => ?_⟩
        have nRH : H R = none := by
          cases z : H R with
          | none => rfl
          | some o => rw [k12 _ _ z] at nR; cases nR
        have nMR : M ≠ R := ne_of_none eM2 nR
        have nBR : B ≠ R := ne_of_none eB nR
        have k3 := same_upd (o := .lst []) k12 nR
        have eB3 := (upd_ne (o := .lst []) nBR).trans eB
        have eM3 := (upd_ne (o := .lst []) nMR).trans eM2
        have eR3 : upd H2 R (.lst []) R = some (.lst []) := upd_same
        have ea2 := k3 _ _ ea
        generalize upd H2 R (.lst []) = H3 at k3 eB3 eM3 eR3 ea2
        refine ⟨_, rfl, a, _, rfl, .inr (SqT.of ea2), (p.length : Int), by rw [List.length_map], by omega, by omega, ?_⟩
        rw [toNat_k]
        refine for_it walk_rangeN (fun i σ' H' => ∃ (x6 x7 : Option V), σ' = [some (.ref a), some (.ref M), some (nV (mkL (p.take (p.map sV).length))), x3, some (.ref B), some (.ref R), x6, x7] ∧ Same H H' ∧ H' B = some (.lst ((((List.range p.length).filter fun k => hasC (p.getD k [])).map (mkB p)).map nV)) ∧ H' M = some (.lst (((List.range p.length).map (mkB p)).map nV)) ∧ H' R = some (.lst (((List.range i).map (outB p)).map sV)))
          ⟨none, none, rfl, k3, eB3, eM3, eR3⟩ (fun _ _ _ _ _ => trivial) ?_ ?_
        · rintro i x σ2 H4 H5 hi ⟨x6, x7, rfl, k5, eB5, eM5, eR5⟩ ⟨rfl, rfl⟩
          have ea5 := k5 _ _ ea
          have hz := hok _ (getD_mem (d := []) hi)
          have ob : outB p i = if (hitB p (mkB p i) && !blankN (p.getD i [])) = true then wholeN (p.getD i []) else p.getD i [] := rfl
          have pa := pg_at hi
          generalize p.getD i [] = r at hz ob pa
          have zr : (mkS r).length ≤ sizeLine := by rw [mkS_len]; exact big_ok (by omega)
          have fin : ∀ (y : V) (x6 x7 : Option V), y = sV (outB p i) → ∃ (x6' x7' : Option V), [some (.ref a), some (.ref M), some (nV (mkL (p.take (p.map sV).length))), x3, some (.ref B), some (.ref R), x6, x7] = [some (.ref a), some (.ref M), some (nV (mkL (p.take (p.map sV).length))), x3, some (.ref B), some (.ref R), x6', x7'] ∧ Same H (upd H5 R (.lst (((List.range i).map (outB p)).map sV ++ [y]))) ∧ upd H5 R (.lst (((List.range i).map (outB p)).map sV ++ [y])) B = some (.lst ((((List.range p.length).filter fun k => hasC (p.getD k [])).map (mkB p)).map nV)) ∧ upd H5 R (.lst (((List.range i).map (outB p)).map sV ++ [y])) M = some (.lst (((List.range p.length).map (mkB p)).map nV)) ∧ upd H5 R (.lst (((List.range i).map (outB p)).map sV ++ [y])) R = some (.lst (((List.range (i + 1)).map (outB p)).map sV)) := fun y x6 x7 e => by
            subst e
            refine ⟨_, _, rfl, same_mut k5 nRH, (upd_ne nBR).trans eB5, (upd_ne nMR).trans eM5, ?_⟩
            rw [List.range_succ, List.map_append, List.map_append]
            exact upd_same
          have ln : (((List.range i).map (outB p)).map sV).length < sizeLine := szN (by rw [List.length_map, List.length_map, List.length_range]; omega)
          have wh : sV (wholeN r) = V.str (Txt.mul ("#" : Str) (((mkS r).length : Nat) : Int)) := by rw [hash_mk, mkS_len, mul_sign]; rfl
          refine ⟨_, rfl, _, rfl, a, _, (i : Int), _, rfl, rfl, SqT.of ea5, atI_nat pa, _, rfl, _, rfl, a, _, (i : Int), _, rfl, rfl, SqT.of ea5, atI_nat pa, mkS r, rfl, zr, _, _, rfl, rfl, by rw [mkS_len]; exact mul_okN (by omega) (by decide), rfl, ?_⟩
          have eb : decide (sV r = V.str (Txt.mul (" " : Str) (((mkS r).length : Nat) : Int))) = blankN r := dec_blank r _ (by rw [blank_mk, mkS_len, mul_sign])
          rw [eb]
          have eh := hit_mem p (mkB p i)
          have rd : ∀ b, b = hitB p (mkB p i) → V.bl (inV (nV (mkB p i)) ((((List.range p.length).filter fun k => hasC (p.getD k [])).map (mkB p)).map nV)) = V.bl b := fun b e => by rw [inV_nats, eh, e]
          refine ⟨_, rfl, .inl ⟨rfl, _, SqL.of eR5⟩, _, rfl, _, rfl, M, _, (i : Int), _, rfl, rfl, SqL.of eM5, atI_nat (mk_at i hi), _, rfl, B, _, rfl, .inl (SqL.of eB5), rfl, flat_nats _, hitB p (mkB p i), rd _ rfl, ?_⟩
          have fin1 := fin (V.str (Txt.mul ("#" : Str) (((mkS r).length : Nat) : Int)))
          have fin2 := fin (sV r)
          rw [ob] at fin1 fin2
          generalize hitB p (mkB p i) = h1 at fin1 fin2
          generalize blankN r = h2 at fin1 fin2
          cases h1 with
          | false => exact ⟨_, rfl, _, rfl, a, _, (i : Int), _, rfl, rfl, SqT.of ea5, atI_nat pa, R, _, _, rfl, rfl, eR5, ln, fin2 _ _ rfl⟩
          | true =>
            cases h2 with
            | true => exact ⟨_, rfl, true, rfl, _, rfl, _, rfl, a, _, (i : Int), _, rfl, rfl, SqT.of ea5, atI_nat pa, R, _, _, rfl, rfl, eR5, ln, fin2 _ _ rfl⟩
            | false => exact ⟨_, rfl, false, rfl, _, rfl, _, rfl, a, _, (i : Int), _, rfl, rfl, SqT.of ea5, atI_nat pa, mkS r, rfl, zr, _, _, rfl, rfl, by rw [mkS_len]; exact mul_okN (by omega) (by decide), R, _, _, rfl, rfl, eR5, ln, fin1 _ _ wh.symm⟩
        · rintro σ2 H4 ⟨x6, x7, rfl, k4, eB4, eM4, eR4⟩
          refine ⟨_, rfl, R, _, rfl, .inl ⟨SqL.of eR4, fun p2 np => ?_⟩⟩
          exact q _ _ (same_upd k4 np) (PgR.iff.mpr ⟨p2, rfl, by rw [upd_same, blocks_out]⟩)
end
end Vf

set_option Elab.async false
set_option linter.all false
set_option maxRecDepth 100000
set_option maxHeartbeats 4000000
namespace Vf
open PySem PySem.Spec PyProof.Rows L2 TL
theorem huT {k : Nat} {A : Around} (r : Room k A) : A.units < cLine := by have := hu65 r; omega
/-- a comprehension with a test, its things told by a relation -/
theorem lc_filR {β : Type} {J : It} {n : Nat} {G : Hp → Prop} {it : Nat → V} (w : Walk J n G (YFn it)) {p : Nat → Bool} {S : Hp → V → β → Prop} {f : Nat → β} {g : TG} {tt : TT} {te : TE} {vs : List Nat} {σ : L2.St} {H : Hp} {Qd : Addr → Hp → Prop}
    (hG : ∀ H', Same H H' → G H') (hn : n ≤ 10000) (mS : Mn S)
    (hs : ∀ (i : Nat) (H1 : Hp) (QQ : VK) (NN : Hp → Prop), i < n → Same H H1 → (p i = true → ∀ y H4, Same H1 H4 → S H4 y (f i) → QQ y H4) → (p i = false → ∀ H4, Same H1 H4 → NN H4) →
      g (it i) (wipe σ vs) H1 fun σ2 H2 => wipe σ2 vs = wipe σ vs ∧ tt σ2 H2 fun b H3 => if b = true then te σ2 H3 QQ else NN H3)
    (hq : ∀ (D : Addr) (H' : Hp) (zs : List V), H D = none → Same H H' → H' D = some (.lst zs) → LV (S H') zs (((List.range n).filter p).map f) → Qd D H') :
    ∀ D, H D = none → ∃ W : Nat → Nat → Hp → Prop, (∃ m, W 0 m (upd H D (.lst []))) ∧ ∀ i m H', W i m H' →
      (J.stop i H' ∧ Qd D H') ∨ (J.go i H' ∧ ∃ Nx : Hp → Prop, (∀ H'', Nx H'' → ∃ m', m' < m ∧ W (i + 1) m' H'') ∧ ∀ x H'', J.yld i H' x H'' → g x (wipe σ vs) H'' fun σ2 H2 => wipe σ2 vs = wipe σ vs ∧ tt σ2 H2 fun b H3 =>
        if b = true then te σ2 H3 fun y H4 => ∃ acc, H4 D = some (.lst acc) ∧ acc.length < sizeLine ∧ Nx (upd H4 D (.lst (acc ++ [y]))) else Nx H3) := by
  intro D nD
  refine lc_it w (fun i H' => ∃ zs, H' D = some (.lst zs) ∧ LV (S H') zs (((List.range i).filter p).map f) ∧ Same H H') ⟨[], upd_same, LV.nil, same_upd (Same.refl H) nD⟩ ?_ ?_ ?_
  · rintro i H' _ ⟨_, _, _, k⟩
    exact hG _ k
  · rintro i x H1 H2 hi ⟨zs, eD, lz, k1⟩ ⟨rfl, rfl⟩
    have lm : ((List.range i).filter p).length ≤ i := Nat.le_trans (List.length_filter_le _ _) (by rw [List.length_range]; exact Nat.le_refl _)
    have zl := lz.1
    rw [List.length_map] at zl
    refine hs i H2 _ _ hi k1 (fun hp y H4 k4 hy => ?_) fun hp H4 k4 => ⟨zs, k4 _ _ eD, ?_, k1.trans k4⟩
    · have eD4 := k4 _ _ eD
      refine ⟨zs, eD4, szN (by omega), zs ++ [y], upd_same, ?_, same_mut (k1.trans k4) nD⟩
      rw [List.range_succ, List.filter_append, List.filter_cons_of_pos hp, List.map_append]
      exact ((lz.mono fun _ _ z => mS.to z (TK.same k4)).snoc hy).mono fun _ _ z => mS.to z (TK.mut (TK.refl _) eD4)
    · rw [List.range_succ, List.filter_append, List.filter_cons_of_neg (by rw [hp]; decide), List.filter_nil, List.append_nil]
      exact lz.mono fun _ _ z => mS.to z (TK.same k4)
  · rintro H1 ⟨zs, eD, lz, k1⟩
    exact hq D H1 zs nD k1 eD lz
theorem lk_at {H : Hp} {us : List V} {l : List Pg} (lv : LV (PgR H) us l) {i : Nat} (h : i < l.length) : ∃ b, us[i]? = some (.ref b) ∧ H b = some (.tup ((l.getD i []).map sV)) := by
  obtain ⟨x, e, hx⟩ := lv.get0 [] h
  obtain ⟨b, rfl, eb⟩ := PgR.iff.mp hx
  exact ⟨b, e, eb⟩
theorem spotP_len (look : List Pg) (p : Nat) : (spotP look p).length ≤ (look.getD p []).length := by
  unfold spotP
  rw [List.length_map]
  exact Nat.le_trans (List.length_filter_le _ _) (by rw [List.length_range]; exact Nat.le_refl _)
def spotsT (look : List Pg) (i : Nat) : List (Nat × Nat) := (List.range i).flatMap (spotP look)
theorem spotsT_succ (look : List Pg) (i : Nat) : spotsT look (i + 1) = spotsT look i ++ spotP look i := by
  unfold spotsT; rw [List.range_succ, List.flatMap_append]; simp
theorem spotsT_len {look : List Pg} (h : LkOk look) : ∀ i, (spotsT look i).length ≤ i * 200
  | 0 => Nat.zero_le _
  | i + 1 => by
    rw [spotsT_succ, List.length_append, Nat.succ_mul]
    have h1 := spotsT_len h i
    have h2 := spotP_len look i
    have h3 : (look.getD i []).length ≤ 200 := by
      by_cases c : i < look.length
      · exact (h.2 _ (getD_mem c)).1
      · rw [List.getD_eq_getElem?_getD, List.getElem?_eq_none (by omega)]; exact Nat.zero_le _
    omega
theorem bg_dec {look : List Pg} {p r : Nat} (hp : p < look.length) (hr : r < (look.getD p []).length) {f : Nat × Nat} {t : List (Nat × Nat)} (e : spots look = f :: t) : bgB look p r = decide (f.1 < p ∨ (p = f.1 ∧ f.2 ≤ r)) := by
  have h := bg_spots hp hr
  by_cases c : f.1 < p ∨ (p = f.1 ∧ f.2 ≤ r)
  · rw [decide_eq_true c]
    refine h.mpr ⟨f, t, e, ?_⟩
    rintro (z | ⟨z1, z2⟩)
    · have z : p < f.1 := z; omega
    · have z1 : p = f.1 := z1
      have z2 : r < f.2 := z2
      omega
  · rw [decide_eq_false c]
    cases z : bgB look p r with
    | false => rfl
    | true =>
      obtain ⟨f', t', e', hn⟩ := h.mp z
      rw [e] at e'
      obtain ⟨rfl, rfl⟩ := List.cons.inj e'
      refine absurd ?_ hn
      by_cases q : p < f.1
      · exact .inl q
      · exact .inr ⟨by show p = f.1; omega, by show r < f.2; omega⟩
theorem bg_none {look : List Pg} {p r : Nat} (hp : p < look.length) (hr : r < (look.getD p []).length) (e : spots look = []) : bgB look p r = false := by
  cases z : bgB look p r with
  | false => rfl
  | true =>
    obtain ⟨f', t', e', _⟩ := (bg_spots hp hr).mp z
    rw [e] at e'; cases e'
section
variable {P : Program} {w : World} {K : PySem.W.Frag} {mg : Str → Option Value} {base : Heap}
theorem ok_belowD (T : Txt K mg) : FnOk P w K mg base CX0 1 T.a_law_below_due T.d_law_below_due ["_law_look"] spBelow := by
  refine T.D_law_below_due.F.ok sc_law_below_due (fun vs H Q E h => ?_) (fun cdv A outer s H vs Q E hr h => ?_)
  · obtain ⟨v, l, rfl, _⟩ := h
    rfl
  · obtain ⟨v, l, rfl, ⟨a, us, rfl, ea, lv⟩, hok, q⟩ := h
    refine ⟨_, (pss_cons (ps_set (i := 1) sc_law_below_due.nd rfl (.inl rfl) (pe_lst pa_nil))
      (pss_cons (ps_for PassesOwn.never rfl (pi_range1 (by rfl) T.n_range (pa_cons (pe_callB call_len_seq (by rfl) T.n_len PySem.boot_len (pa_cons (pv 0) pa_nil)) pa_nil)) (pg_name (i := 2) sc_law_below_due.nd rfl (.inr rfl)) (pss_one (ps_set (i := 1) sc_law_below_due.nd rfl (.inl rfl) (pe_op op_cat (pv 1) (pe_lc (own := [("_law_r", 5)]) (g := gName 5) rfl sc_law_below_due.nd (pi_range1 (by rfl) T.n_range (pa_cons (pe_callB call_len_seq (by rfl) T.n_len PySem.boot_len (pa_cons (pe_ix ix_tup (pv 0) (pv 2) (fun _ _ => rfl)) pa_nil)) pa_nil)) (blkOk_by (own := [("_law_r", 5)]) (N := ["_law_look", "_law_spots", "_law_p", "_law_pages", "_law_rows", "_law_r"]) (sc := (defScope s_law_below_due)) (by decide +kernel)) (fun _ _ _ _ _ => (pg_name (i := 5) sc_law_below_due.nd rfl (.inl rfl))) (fun _ _ _ _ _ => (pts_one (pt_cmpR op_in_sign pe_str (pe_ix (r := rIxT K) ix_tup (pe_ix (r := rIxT K) ix_tup (pv 0) (pv 2) (fun _ _ => rfl)) (pv 5) (fun _ _ => rfl)) (by rfl)))) (fun _ _ _ _ _ => (pe_tup (pa_cons (pv 2) (pa_cons (pv 5) pa_nil)))))))))
      (pss_cons (ps_set (i := 3) sc_law_below_due.nd rfl (.inl rfl) (pe_lst pa_nil))
      (pss_cons (ps_for PassesOwn.never rfl (pi_range1 (by rfl) T.n_range (pa_cons (pe_callB call_len_seq (by rfl) T.n_len PySem.boot_len (pa_cons (pv 0) pa_nil)) pa_nil)) (pg_name (i := 2) sc_law_below_due.nd rfl (.inr rfl)) (pss_cons (ps_set (i := 4) sc_law_below_due.nd rfl (.inl rfl) (pe_lst pa_nil))
      (pss_cons (ps_for PassesOwn.never rfl (pi_range1 (by rfl) T.n_range (pa_cons (pe_callB call_len_seq (by rfl) T.n_len PySem.boot_len (pa_cons (pe_ix ix_tup (pv 0) (pv 2) (fun _ _ => rfl)) pa_nil)) pa_nil)) (pg_name (i := 5) sc_law_below_due.nd rfl (.inl rfl)) (pss_one (ps_expr (pe_bm PySem.F.plainAttrs_list PySem.F.slot_list_append PySem.F.type_list_append mt_append (pv 4) (pa_cons (pe_ifExp (PW.pt (pw_and (pt_truth (pv 1) (by intro _; rfl)) (pw_and1 (pt_cmpR (op_geT (huT hr)) (pe_tup (pa_cons (pv 2) (pa_cons (pv 5) pa_nil))) (pe_ix ix_list (pv 1) pe_int (fun _ _ => rfl)) (nomark _))))) (pe_op op_mul_str pe_str (pe_callB call_len_str (by rfl) T.n_len PySem.boot_len (pa_cons (pe_ix ix_tup (pe_ix ix_tup (pv 0) (pv 2) (fun _ _ => rfl)) (pv 5) (fun _ _ => rfl)) pa_nil))) (pe_ix ix_tup (pe_ix ix_tup (pv 0) (pv 2) (fun _ _ => rfl)) (pv 5) (fun _ _ => rfl))) pa_nil)))))
      (pss_one (ps_expr (pe_bm PySem.F.plainAttrs_list PySem.F.slot_list_append PySem.F.type_list_append mt_append (pv 3) (pa_cons (pe_callTy call_tuple_of (by rfl) T.n_tuple (by decide +kernel) (pa_cons (pv 4) pa_nil)) pa_nil)))))))
      (pss_one (ps_ret (pe_callTy call_tuple_of (by rfl) T.n_tuple (by decide +kernel) (pa_cons (pv 3) pa_nil)))))))), ?_⟩
    have l200 := hok.1
    have lul := lv.1
    refine ⟨Nat.zero_le _, fun S nS => ?_⟩
    have k0 := same_upd (o := .lst []) (Same.refl H) nS
    have eS0 : upd H S (.lst []) S = some (.lst []) := upd_same
    generalize upd H S (.lst []) = H0 at k0 eS0
    refine ⟨_, rfl, a, _, rfl, .inr (SqT.of (k0 _ _ ea)), (l.length : Int), by rw [lul], by omega, by omega, ?_⟩
    rw [toNat_k]
    refine for_it walk_rangeN (fun i σ' H' => ∃ (S' : Addr) (zs : List V) (x2 : Option V), σ' = [some (.ref a), some (.ref S'), x2, none, none, none] ∧ Same H H' ∧ H' S' = some (.lst zs) ∧ LV (PrR H') zs (spotsT l i))
      ⟨S, [], none, rfl, k0, eS0, LV.nil⟩ (fun _ _ _ _ _ => trivial) ?_ ?_
    · rintro i x σ1 H1 H2 hi ⟨S', zs, x2, rfl, k1, eS, lz⟩ ⟨rfl, rfl⟩
      obtain ⟨b, hb, eb⟩ := lk_at lv hi
      have pok := hok.2 _ (getD_mem (d := []) hi)
      have p200 := pok.1
      have sl := spotsT_len hok i
      have zl := lz.1
      refine ⟨_, rfl, _, rfl, _, rfl, a, _, (i : Int), _, rfl, rfl, SqT.of (k1 _ _ ea), atI_nat hb, b, _, rfl, .inr (SqT.of (k1 _ _ eb)), ((l.getD i []).length : Int), by rw [List.length_map], by omega, by omega, ?_⟩
      rw [toNat_k]
      refine lc_filR walk_rangeN (p := fun r => hasC ((l.getD i []).getD r [])) (S := PrR) (f := fun r => (i, r)) (fun _ _ => trivial) (by omega) PrR.mn (fun r H3 QQ NN hr k3 hy hn => ?_) fun D H3 ys nD k3 eD ly => ?_
      · refine ⟨rfl, _, rfl, _, rfl, a, _, (i : Int), _, rfl, rfl, SqT.of (TK.same (k1.trans k3) _ _ ea), atI_nat hb, _, rfl, b, _, (r : Int), _, rfl, rfl, SqT.of (TK.same (k1.trans k3) _ _ eb), atI_nat (pg_at hr), 35, mkS ((l.getD i []).getD r []), by rw [hash_mk]; rfl, rfl, hasC ((l.getD i []).getD r []), congrArg V.bl (in_hash _), ?_⟩
        by_cases c : hasC ((l.getD i []).getD r []) = true
        · rw [c]
          exact ⟨_, rfl, _, rfl, big_ok (by show 2 ≤ _; omega), fun p np => hy c _ _ (same_upd (Same.refl _) np) (PrR.new rfl rfl)⟩
        · rw [Bool.eq_false_iff.mpr c]
          exact hn (Bool.eq_false_iff.mpr c) _ (Same.refl _)
      · have ly : LV (PrR H3) ys (spotP l i) := ly
        have lyl := ly.1
        have spl := spotP_len l i
        refine ⟨S', D, zs, ys, rfl, rfl, k3 _ _ eS, eD, Nat.le_of_lt (szN (by omega)), fun p np => ?_⟩
        refine ⟨p, _, _, rfl, same_upd (k1.trans k3) np, upd_same, ?_⟩
        rw [spotsT_succ]
        exact ((lz.mono fun _ _ z => PrR.mn.to z (TK.same k3)).app2 ly).mono fun _ _ z => PrR.mn.to z (TK.new (TK.refl _) np)
    · rintro σ1 H1 ⟨S', zs, x2, rfl, k1, eS, lz⟩
      have lz : LV (PrR H1) zs (spots l) := lz
      refine ⟨Nat.zero_le _, fun R nR => ?_⟩
      have nRH : H R = none := by
        cases z : H R with
        | none => rfl
        | some o => rw [k1 _ _ z] at nR; cases nR
      have nSR : S' ≠ R := ne_of_none eS nR
      have k2 := same_upd (o := .lst []) k1 nR
      have eR2 : upd H1 R (.lst []) R = some (.lst []) := upd_same
      have eS2 := (upd_ne (o := .lst []) nSR).trans eS
      have lz2 : LV (PrR (upd H1 R (.lst []))) zs (spots l) := lz.mono fun _ _ z => PrR.mn.to z (TK.new (TK.refl _) nR)
      generalize upd H1 R (.lst []) = H2 at k2 eR2 eS2 lz2
      refine ⟨_, rfl, a, _, rfl, .inr (SqT.of (k2 _ _ ea)), (l.length : Int), by rw [lul], by omega, by omega, ?_⟩
      rw [toNat_k]
      refine for_it walk_rangeN (fun i σ' H' => ∃ (x2 x4 x5 : Option V) (ys : List V), σ' = [some (.ref a), some (.ref S'), x2, some (.ref R), x4, x5] ∧ Same H H' ∧ H' S' = some (.lst zs) ∧ LV (PrR H') zs (spots l) ∧ H' R = some (.lst ys) ∧ LV (PgR H') ys ((belowN l).take i))
        ⟨x2, none, none, [], rfl, k2, eS2, lz2, eR2, LV.nil⟩ (fun _ _ _ _ _ => trivial) ?_ ?_
      · rintro i x σ2 H3 H4 hi ⟨x2, x4, x5, ys, rfl, k3, eS3, lz3, eR3, ly3⟩ ⟨rfl, rfl⟩
        obtain ⟨b, hb, eb⟩ := lk_at lv hi
        have pok := hok.2 _ (getD_mem (d := []) hi)
        have p200 := pok.1
        have eB : (belowN l)[i]? = some ((List.range (l.getD i []).length).map (rowBel l i)) := by unfold belowN; rw [List.getElem?_map, List.getElem?_range hi]; rfl
        refine ⟨Nat.zero_le _, fun W nW => ?_⟩
        have nWH : H W = none := by
          cases z : H W with
          | none => rfl
          | some o => rw [k3 _ _ z] at nW; cases nW
        have nSW : S' ≠ W := ne_of_none eS3 nW
        have nRW : R ≠ W := ne_of_none eR3 nW
        have k4 := same_upd (o := .lst []) k3 nW
        have eW4 : upd H4 W (.lst []) W = some (.lst []) := upd_same
        have eS4 := (upd_ne (o := .lst []) nSW).trans eS3
        have eR4 := (upd_ne (o := .lst []) nRW).trans eR3
        have lz4 : LV (PrR (upd H4 W (.lst []))) zs (spots l) := lz3.mono fun _ _ z => PrR.mn.to z (TK.new (TK.refl _) nW)
        have ly4 : LV (PgR (upd H4 W (.lst []))) ys ((belowN l).take i) := ly3.mono fun _ _ z => PgR.mn.to z (TK.new (TK.refl _) nW)
        generalize upd H4 W (.lst []) = H5 at k4 eW4 eS4 eR4 lz4 ly4
        refine ⟨_, rfl, _, rfl, a, _, (i : Int), _, rfl, rfl, SqT.of (k4 _ _ ea), atI_nat hb, b, _, rfl, .inr (SqT.of (k4 _ _ eb)), ((l.getD i []).length : Int), by rw [List.length_map], by omega, by omega, ?_⟩
        rw [toNat_k]
        refine for_it walk_rangeN (fun r σ' H' => ∃ (x5 : Option V), σ' = [some (.ref a), some (.ref S'), some (nV i), some (.ref R), some (.ref W), x5] ∧ Same H H' ∧ H' S' = some (.lst zs) ∧ LV (PrR H') zs (spots l) ∧ H' R = some (.lst ys) ∧ LV (PgR H') ys ((belowN l).take i) ∧ H' W = some (.lst (((List.range r).map (rowBel l i)).map sV)))
          ⟨x5, rfl, k4, eS4, lz4, eR4, ly4, eW4⟩ (fun _ _ _ _ _ => trivial) ?_ ?_
        · rintro r x σ3 H6 H7 hr ⟨x5, rfl, k7, eS7, lz7, eR7, ly7, eW7⟩ ⟨rfl, rfl⟩
          have ea7 := k7 _ _ ea
          have eb7 := k7 _ _ eb
          have hz := pok.2 _ (getD_mem (d := []) hr)
          have pa := pg_at hr
          have rb : rowBel l i r = if bgB l i r = true then wholeN ((l.getD i []).getD r []) else (l.getD i []).getD r [] := rfl
          have zr : (mkS ((l.getD i []).getD r [])).length ≤ sizeLine := by rw [mkS_len]; exact big_ok (by omega)
          have ln : (((List.range r).map (rowBel l i)).map sV).length < sizeLine := szN (by rw [List.length_map, List.length_map, List.length_range]; omega)
          have fin : ∀ (Hn : Hp) (y : V) (x5 : Option V), Same H7 Hn → y = sV (rowBel l i r) → ∃ (x5' : Option V), [some (.ref a), some (.ref S'), some (nV i), some (.ref R), some (.ref W), x5] = [some (.ref a), some (.ref S'), some (nV i), some (.ref R), some (.ref W), x5'] ∧ Same H (upd Hn W (.lst (((List.range r).map (rowBel l i)).map sV ++ [y]))) ∧ upd Hn W (.lst (((List.range r).map (rowBel l i)).map sV ++ [y])) S' = some (.lst zs) ∧ LV (PrR (upd Hn W (.lst (((List.range r).map (rowBel l i)).map sV ++ [y])))) zs (spots l) ∧ upd Hn W (.lst (((List.range r).map (rowBel l i)).map sV ++ [y])) R = some (.lst ys) ∧ LV (PgR (upd Hn W (.lst (((List.range r).map (rowBel l i)).map sV ++ [y])))) ys ((belowN l).take i) ∧ upd Hn W (.lst (((List.range r).map (rowBel l i)).map sV ++ [y])) W = some (.lst (((List.range (r + 1)).map (rowBel l i)).map sV)) := fun Hn y x5 kn e => by
            subst e
            have tm : TK H7 (upd Hn W (.lst (((List.range r).map (rowBel l i)).map sV ++ [sV (rowBel l i r)]))) := (TK.same kn).trans (TK.mut (TK.refl _) (kn _ _ eW7))
            refine ⟨_, rfl, same_mut (k7.trans kn) nWH, (upd_ne nSW).trans (kn _ _ eS7), lz7.mono fun _ _ z => PrR.mn.to z tm, (upd_ne nRW).trans (kn _ _ eR7), ly7.mono fun _ _ z => PgR.mn.to z tm, ?_⟩
            rw [List.range_succ, List.map_append, List.map_append]
            exact upd_same
          have wh : sV (wholeN ((l.getD i []).getD r [])) = V.str (Txt.mul ("#" : Str) (((mkS ((l.getD i []).getD r [])).length : Nat) : Int)) := by rw [hash_mk, mkS_len, mul_sign]; rfl
          have lzl := lz7.1
          refine ⟨_, rfl, .inl ⟨rfl, _, SqL.of eW7⟩, _, rfl, ?_⟩
          have cs : spots l = [] ∨ ∃ f t, spots l = f :: t := by
            cases spots l with
            | nil => exact .inl rfl
            | cons f t => exact .inr ⟨f, t, rfl⟩
          rcases cs with es | ⟨f, t, es⟩
          · rw [es] at lzl
            have hzs : zs = [] := List.eq_nil_of_length_eq_zero lzl
            rw [bg_none hi hr es, if_neg Bool.false_ne_true] at rb
            refine ⟨false, .inl ⟨_, SqL.of eS7, by rw [hzs]; rfl⟩, _, rfl, _, rfl, a, _, (i : Int), _, rfl, rfl, SqT.of ea7, atI_nat hb, _, rfl, b, _, (r : Int), _, rfl, rfl, SqT.of eb7, atI_nat pa, W, _, _, rfl, rfl, eW7, ln, ?_⟩
            exact fin H7 _ _ (Same.refl _) (by rw [rb])
          · obtain ⟨x0, ex0, hx0⟩ := lz7.2 0 f (by rw [es]; rfl)
            obtain ⟨p0, rfl, ep0⟩ := hx0.at
            have hne : (!zs.isEmpty) = true := by
              cases zs with
              | nil => cases ex0
              | cons _ _ => rfl
            rw [bg_dec hi hr es] at rb
            refine ⟨true, .inl ⟨_, SqL.of eS7, hne.symm⟩, ?_⟩
            refine ⟨_, rfl, _, rfl, big_ok (by show 2 ≤ _; omega), fun p1 np1 => ?_⟩
            have k8 := same_upd (o := .tup [nV i, nV r]) (Same.refl H7) np1
            have ep1 : upd H7 p1 (.tup [nV i, nV r]) p1 = some (.tup [nV i, nV r]) := upd_same
            generalize upd H7 p1 (.tup [nV i, nV r]) = H8 at k8 ep1
            refine ⟨_, rfl, S', _, 0, _, rfl, rfl, SqL.of (k8 _ _ eS7), atI_nat (j := 0) ex0, p1, p0, [((i : Nat) : Int), ((r : Nat) : Int)], [((f.1 : Nat) : Int), ((f.2 : Nat) : Int)], rfl, rfl, SqT.of ep1, SqT.of (k8 _ _ ep0), ?_⟩
            refine ⟨_, congrArg V.bl (ge_pair i r f.1 f.2), ?_⟩
            by_cases c : f.1 < i ∨ (i = f.1 ∧ f.2 ≤ r)
            · rw [decide_eq_true c, if_pos rfl] at rb
              rw [decide_eq_true c]
              refine ⟨_, rfl, _, rfl, a, _, (i : Int), _, rfl, rfl, SqT.of (k8 _ _ ea7), atI_nat hb, _, rfl, b, _, (r : Int), _, rfl, rfl, SqT.of (k8 _ _ eb7), atI_nat pa, mkS ((l.getD i []).getD r []), rfl, zr, _, _, rfl, rfl, by rw [mkS_len]; exact mul_okN (by omega) (by decide), W, _, _, rfl, rfl, k8 _ _ eW7, ln, ?_⟩
              exact fin H8 _ _ k8 (by rw [rb]; exact wh.symm)
            · rw [decide_eq_false c, if_neg Bool.false_ne_true] at rb
              rw [decide_eq_false c]
              refine ⟨_, rfl, _, rfl, a, _, (i : Int), _, rfl, rfl, SqT.of (k8 _ _ ea7), atI_nat hb, _, rfl, b, _, (r : Int), _, rfl, rfl, SqT.of (k8 _ _ eb7), atI_nat pa, W, _, _, rfl, rfl, k8 _ _ eW7, ln, ?_⟩
              exact fin H8 _ _ k8 (by rw [rb])
        · rintro σ3 H6 ⟨x5, rfl, k6, eS6, lz6, eR6, ly6, eW6⟩
          refine ⟨_, rfl, .inl ⟨rfl, _, SqL.of eR6⟩, _, rfl, W, _, rfl, .inl ⟨SqL.of eW6, fun p np => ?_⟩⟩
          have k7 := same_upd (o := .tup (((List.range (l.getD i []).length).map (rowBel l i)).map sV)) k6 np
          have eR7 : upd H6 p (.tup (((List.range (l.getD i []).length).map (rowBel l i)).map sV)) R = _ := (upd_ne (ne_of_none eR6 np)).trans eR6
          have eS7 : upd H6 p (.tup (((List.range (l.getD i []).length).map (rowBel l i)).map sV)) S' = _ := (upd_ne (ne_of_none eS6 np)).trans eS6
          have tn : TK H6 (upd H6 p (.tup (((List.range (l.getD i []).length).map (rowBel l i)).map sV))) := TK.new (TK.refl _) np
          have ly7 := ly6.mono fun _ _ z => PgR.mn.to z tn
          have lz7 := lz6.mono fun _ _ z => PrR.mn.to z tn
          have ep7 : PgR (upd H6 p (.tup (((List.range (l.getD i []).length).map (rowBel l i)).map sV))) (.ref p) ((List.range (l.getD i []).length).map (rowBel l i)) := PgR.iff.mpr ⟨p, rfl, upd_same⟩
          generalize upd H6 p (.tup (((List.range (l.getD i []).length).map (rowBel l i)).map sV)) = H7 at k7 eR7 eS7 ly7 lz7 ep7
          have yl := ly7.1
          rw [List.length_take] at yl
          refine ⟨R, _, _, rfl, rfl, eR7, szN (by omega), ?_⟩
          have tm : TK H7 (upd H7 R (.lst (ys ++ [.ref p]))) := TK.mut (TK.refl _) eR7
          refine ⟨_, _, _, _, rfl, same_mut k7 nRH, (upd_ne nSR).trans eS7, lz7.mono fun _ _ z => PrR.mn.to z tm, upd_same, ?_⟩
          rw [take_one eB]
          exact (ly7.snoc ep7).mono fun _ _ z => PgR.mn.to z tm
      · rintro σ2 H3 ⟨x2, x4, x5, ys, rfl, k3, eS3, lz3, eR3, ly3⟩
        have lbl : (belowN l).length = l.length := by unfold belowN; rw [List.length_map, List.length_range]
        rw [← lbl, List.take_length] at ly3
        refine ⟨_, rfl, R, _, rfl, .inl ⟨SqL.of eR3, fun p np => ?_⟩⟩
        exact q _ _ (same_upd k3 np) ⟨p, ys, rfl, upd_same, ly3.mono fun _ _ z => PgR.mn.to z (TK.new (TK.refl _) np)⟩
end
end Vf

set_option Elab.async false
set_option linter.all false
set_option maxRecDepth 100000
set_option maxHeartbeats 4000000
namespace Vf
open PySem PySem.Spec PyProof.Rows L2 TL
def pgK (k n : Nat) (p : Pg) : Pg := if k = 4 then blocksN p else if k = 5 then pagesN p else p.map (rowK k n)
theorem draw_pgK {k n : Nat} {l : List Pg} (hk : k < 8) (h2 : k ≠ 2) (h6 : k ≠ 6) : drawN k n l = l.map (pgK k n) := by
  match k, hk, h2, h6 with
  | 0, _, _, _ => rfl
  | 1, _, _, _ => rfl
  | 3, _, _, _ => rfl
  | 4, _, _, _ => rfl
  | 5, _, _, _ => rfl
  | 7, _, _, _ => rfl
  | 2, _, h, _ => exact absurd rfl h
  | 6, _, _, h => exact absurd rfl h
theorem range_lt (m n : Nat) : (List.range m).filter (fun p => decide (p < n)) = List.range (min m n) := by
  induction m with
  | zero => simp
  | succ m ih =>
    rw [List.range_succ, List.filter_append, ih]
    by_cases h : m < n
    · rw [List.filter_cons_of_pos (p := fun p => decide (p < n)) (decide_eq_true h), List.filter_nil, Nat.min_eq_left (by omega), Nat.min_eq_left (by omega), List.range_succ]
    · rw [List.filter_cons_of_neg (p := fun p => decide (p < n)) (by rw [decide_eq_false h]; decide), List.filter_nil, List.append_nil, Nat.min_eq_right (by omega), Nat.min_eq_right (by omega)]
theorem keep_take (l : List Pg) (n : Nat) : ((List.range l.length).filter fun p => decide (p < n)).map (fun p => l.getD p []) = l.take n := by
  rw [range_lt]
  refine List.ext_getElem (by simp; omega) fun i a b => ?_
  have hi : i < l.length := by simp at b; omega
  simp [hi]
theorem any_fil {p : Pg} : (p.filter hasC = []) ↔ p.any hasC = false := by
  rw [List.filter_eq_nil_iff, List.any_eq_false]
section
variable {P : Program} {w : World} {K : PySem.W.Frag} {mg : Str → Option Value} {base : Heap}
theorem ok_due (T : Txt K mg) : FnOk P w K mg base CX0 3 T.a_law_due T.d_law_due ["_law_step", "_law_look"] spDue := by
  have G_law_row_due : FnOk P w K mg base CX0 2 T.a_law_row_due T.d_law_row_due ["_law_step", "_law_row"] spRowD := ok_rowD T
  have G_law_blocks_due : FnOk P w K mg base CX0 1 T.a_law_blocks_due T.d_law_blocks_due ["_law_page"] spBlocksP := ok_blocksD T
  have G_law_below_due : FnOk P w K mg base CX0 1 T.a_law_below_due T.d_law_below_due ["_law_look"] spBelow := ok_belowD T
  refine T.D_law_due.F.ok sc_law_due (fun vs H Q E h => ?_) (fun cdv A outer s H vs Q E hr h => ?_)
  · obtain ⟨sv, v, st, l, rfl, _⟩ := h
    rfl
  · obtain ⟨sv, v, ⟨k, n⟩, l, rfl, ⟨sa, rfl, es⟩, ⟨hk, hn1, hn⟩, ⟨a, us, rfl, ea, lv⟩, hok, q⟩ := h
    have hk : k < 8 := hk
    have hn1 : 1 ≤ n := hn1
    have hn : n ≤ 1000 := hn
    have hst : StpR H (.ref sa) (k, n) := ⟨sa, rfl, es⟩
    obtain ⟨⟨tl, e0⟩, h1⟩ := StpR.name es
    have ne := fun j hj => nm_eq k hk j hj
    have l200 := hok.1
    have lul := lv.1
    refine ⟨_, (pss_cons (ps_if (pt_cmpR op_eq (pe_ix ix_tup (pv 0) pe_int (fun _ _ => rfl)) pe_str (nomark _)) (pss_one (ps_ret (pe_callTy call_tuple_of (by rfl) T.n_tuple (by decide +kernel) (pa_cons (pe_lc (own := [("_law_p", 5)]) (g := gName 5) rfl sc_law_due.nd (pi_range1 (by rfl) T.n_range (pa_cons (pe_callB call_len_seq (by rfl) T.n_len PySem.boot_len (pa_cons (pv 1) pa_nil)) pa_nil)) (blkOk_by (own := [("_law_p", 5)]) (N := ["_law_step", "_law_look", "_law_pages", "_law_page", "_law_hit", "_law_p", "_law_row"]) (sc := (defScope s_law_due)) (by decide +kernel)) (fun _ _ _ _ _ => (pg_name (i := 5) sc_law_due.nd rfl (.inl rfl))) (fun _ _ _ _ _ => (pts_one (pt_cmpR op_lt (pv 5) (pe_ix (r := rIxT K) ix_tup (pv 0) pe_int (fun _ _ => rfl)) (nomark _)))) (fun _ _ _ _ _ => (pe_ix (r := rIxT K) ix_tup (pv 1) (pv 5) (fun _ _ => rfl)))) pa_nil)))) pss_nil)
      (pss_cons (ps_if (pt_cmpR op_eq (pe_ix ix_tup (pv 0) pe_int (fun _ _ => rfl)) pe_str (nomark _)) (pss_one (ps_ret (pe_call G_law_below_due (hr.mono (by decide)) (by rfl) T.D_law_below_due.G T.D_law_below_due.F.kp T.D_law_below_due.B .nil pass0 (pa_cons (pv 1) pa_nil)))) pss_nil)
      (pss_cons (ps_set (i := 2) sc_law_due.nd rfl (.inl rfl) (pe_lst pa_nil))
      (pss_cons (ps_for PassesOwn.never rfl (pi_tup (pv 1)) (pg_name (i := 3) sc_law_due.nd rfl (.inl rfl)) (pss_one (ps_if (pt_cmpR op_eq (pe_ix ix_tup (pv 0) pe_int (fun _ _ => rfl)) pe_str (nomark _)) (pss_one (ps_expr (pe_bm PySem.F.plainAttrs_list PySem.F.slot_list_append PySem.F.type_list_append mt_append (pv 2) (pa_cons (pe_call G_law_blocks_due (hr.mono (by decide)) (by rfl) T.D_law_blocks_due.G T.D_law_blocks_due.F.kp T.D_law_blocks_due.B .nil pass0 (pa_cons (pv 3) pa_nil)) pa_nil)))) (pss_one (ps_if (pt_cmpR op_eq (pe_ix ix_tup (pv 0) pe_int (fun _ _ => rfl)) pe_str (nomark _)) (pss_cons (ps_set (i := 4) sc_law_due.nd rfl (.inr rfl) (pe_lc (own := [("_law_row", 6)]) (g := gName 6) rfl sc_law_due.nd (pi_tup (pv 3)) (blkOk_by (own := [("_law_row", 6)]) (N := ["_law_step", "_law_look", "_law_pages", "_law_page", "_law_hit", "_law_p", "_law_row"]) (sc := (defScope s_law_due)) (by decide +kernel)) (fun _ _ _ _ _ => (pg_name (i := 6) sc_law_due.nd rfl (.inl rfl))) (fun _ _ _ _ _ => (pts_one (pt_cmpR op_in_sign pe_str (pv 6) (by rfl)))) (fun _ _ _ _ _ => (pv 6))))
      (pss_one (ps_expr (pe_bm PySem.F.plainAttrs_list PySem.F.slot_list_append PySem.F.type_list_append mt_append (pv 2) (pa_cons (pe_callTy call_tuple_of (by rfl) T.n_tuple (by decide +kernel) (pa_cons (pe_lc (own := [("_law_row", 6)]) (g := gName 6) (tt := tYes) rfl sc_law_due.nd (pi_tup (pv 3)) (blkOk_by (own := [("_law_row", 6)]) (N := ["_law_step", "_law_look", "_law_pages", "_law_page", "_law_hit", "_law_p", "_law_row"]) (sc := (defScope s_law_due)) (by decide +kernel)) (fun _ _ _ _ _ => (pg_name (i := 6) sc_law_due.nd rfl (.inl rfl))) (fun _ _ _ _ _ => pts_nil) (fun _ _ _ _ _ => (pe_ifExp (pt_tru (K := K) rfl (pv 4) (by intro _; rfl)) (pe_op op_mul_str pe_str (pe_callB call_len_str (by rfl) T.n_len PySem.boot_len (pa_cons (pv 6) pa_nil))) (pv 6)))) pa_nil)) pa_nil))))) (pss_one (ps_expr (pe_bm PySem.F.plainAttrs_list PySem.F.slot_list_append PySem.F.type_list_append mt_append (pv 2) (pa_cons (pe_callTy call_tuple_of (by rfl) T.n_tuple (by decide +kernel) (pa_cons (pe_lc (own := [("_law_row", 6)]) (g := gName 6) (tt := tYes) rfl sc_law_due.nd (pi_tup (pv 3)) (blkOk_by (own := [("_law_row", 6)]) (N := ["_law_step", "_law_look", "_law_pages", "_law_page", "_law_hit", "_law_p", "_law_row"]) (sc := (defScope s_law_due)) (by decide +kernel)) (fun _ _ _ _ _ => (pg_name (i := 6) sc_law_due.nd rfl (.inl rfl))) (fun _ _ _ _ _ => pts_nil) (fun _ _ _ _ _ => (pe_call G_law_row_due (hr.mono (by decide)) (by rfl) T.D_law_row_due.G T.D_law_row_due.F.kp T.D_law_row_due.B .nil pass0 (pa_cons (pv 0) (pa_cons (pv 6) pa_nil))))) pa_nil)) pa_nil)))))))))
      (pss_one (ps_ret (pe_callTy call_tuple_of (by rfl) T.n_tuple (by decide +kernel) (pa_cons (pv 2) pa_nil)))))))), ?_⟩
    refine ⟨_, rfl, sa, _, _, _, rfl, rfl, SqT.of e0, atI_nat (j := 0) rfl, rfl, _, congrArg V.bl (ne 2 (by decide)), ?_⟩
    by_cases k2 : k = 2
    · rw [decide_eq_true k2]
      subst k2
      have q : ∀ H' u, Same H H' → LkR H' u (l.take n) → Q u H' := q
      refine ⟨_, rfl, a, _, rfl, .inr (SqT.of ea), (l.length : Int), by rw [lul], by omega, by omega, ?_⟩
      rw [toNat_k]
      refine lc_filR walk_rangeN (p := fun p => decide (p < n)) (S := PgR) (f := fun p => l.getD p []) (fun _ _ => trivial) (by omega) PgR.mn (fun i H1 QQ NN hi k1 hy hn => ?_) fun D H1 ys nD k1 eD ly => ?_
      · obtain ⟨b, hb, eb⟩ := lk_at lv hi
        refine ⟨rfl, _, rfl, _, rfl, sa, _, _, _, rfl, rfl, SqT.of (k1 _ _ (h1 (show (2 : Nat) < 3 by decide))), atI_nat (j := 1) rfl, _, _, rfl, rfl, decide (i < n), congrArg V.bl (by by_cases c : i < n; rw [decide_eq_true c]; exact decide_eq_true (by omega); rw [decide_eq_false c]; exact decide_eq_false (by omega)), ?_⟩
        by_cases c : decide (i < n) = true
        · rw [c]
          exact ⟨_, rfl, _, rfl, a, _, (i : Int), _, rfl, rfl, SqT.of (k1 _ _ ea), atI_nat hb, hy c _ _ (Same.refl _) (PgR.iff.mpr ⟨b, rfl, k1 _ _ eb⟩)⟩
        · rw [Bool.eq_false_iff.mpr c]
          exact hn (Bool.eq_false_iff.mpr c) _ (Same.refl _)
      · rw [keep_take] at ly
        exact ⟨D, _, rfl, .inl ⟨SqL.of eD, fun p np => q _ _ (same_upd k1 np) (TupR.new PgR.mn ly np)⟩⟩
    rw [decide_eq_false k2]
    refine ⟨_, rfl, sa, _, _, _, rfl, rfl, SqT.of e0, atI_nat (j := 0) rfl, rfl, _, congrArg V.bl (ne 6 (by decide)), ?_⟩
    by_cases k6 : k = 6
    · rw [decide_eq_true k6]
      subst k6
      exact ⟨_, rfl, _, l, rfl, ⟨a, us, rfl, ea, lv⟩, hok, q⟩
    rw [decide_eq_false k6]
    have dk := draw_pgK (n := n) (l := l) hk k2 k6
    refine ⟨Nat.zero_le _, fun R nR => ?_⟩
    have k0 := same_upd (o := .lst []) (Same.refl H) nR
    have eR0 : upd H R (.lst []) R = some (.lst []) := upd_same
    generalize upd H R (.lst []) = H0 at k0 eR0
    refine ⟨_, rfl, a, rfl, ⟨_, SqT.of (k0 _ _ ea)⟩, ?_⟩
    refine for_it (walk_tup (K := K) (a := a) (xs := us)) (fun i σ' H' => ∃ (x3 x4 : Option V) (zs : List V), σ' = [some (.ref sa), some (.ref a), some (.ref R), x3, x4, none, none] ∧ Same H H' ∧ H' R = some (.lst zs) ∧ LV (PgR H') zs ((l.take i).map (pgK k n)))
      ⟨none, none, [], rfl, k0, eR0, LV.nil⟩ ?_ ?_ ?_
    · rintro i σ1 H1 _ ⟨_, _, _, _, k, _⟩
      exact SqT.of (k _ _ ea)
    · rintro i x σ1 H1 H2 hi ⟨x3, x4, zs, rfl, kk, eR, lz⟩ ⟨rfl, hx⟩
      obtain ⟨pg, epg, hpg⟩ := lv.at hx
      have hpg := PgR.mn.to hpg (TK.same kk)
      obtain ⟨b, rfl, eb⟩ := PgR.iff.mp hpg
      have pok := lk_ok hok epg
      have p200 := pok.1
      have zl := lz.1
      rw [List.length_map, List.length_take] at zl
      have fin : ∀ (Hn : Hp) (y : V) (x3 x4 : Option V), Same H2 Hn → PgR Hn y (pgK k n pg) → ∃ (x3' x4' : Option V) (zs' : List V), [some (.ref sa), some (.ref a), some (.ref R), x3, x4, none, none] = [some (.ref sa), some (.ref a), some (.ref R), x3', x4', none, none] ∧ Same H (upd Hn R (.lst (zs ++ [y]))) ∧ upd Hn R (.lst (zs ++ [y])) R = some (.lst zs') ∧ LV (PgR (upd Hn R (.lst (zs ++ [y])))) zs' ((l.take (i + 1)).map (pgK k n)) := fun Hn y x3 x4 kn hy => by
        refine ⟨_, _, _, rfl, same_mut (kk.trans kn) nR, upd_same, ?_⟩
        rw [take_one epg, List.map_append]
        exact ((lz.mono fun _ _ z => PgR.mn.to z (TK.same kn)).snoc hy).mono fun _ _ z => PgR.mn.to z (TK.mut (TK.refl _) (kn _ _ eR))
      have ln : zs.length < sizeLine := szN (by omega)
      have e02 := kk _ _ e0
      refine ⟨_, rfl, sa, _, _, _, rfl, rfl, SqT.of e02, atI_nat (j := 0) rfl, rfl, _, congrArg V.bl (ne 4 (by decide)), ?_⟩
      by_cases k4 : k = 4
      · rw [decide_eq_true k4]
        have pe : pgK k n pg = blocksN pg := by unfold pgK; rw [if_pos k4]
        rw [pe] at fin
        exact ⟨_, rfl, .inl ⟨rfl, _, SqL.of eR⟩, _, rfl, _, pg, rfl, hpg, pok, fun H3 u k3 hu => ⟨R, _, _, rfl, rfl, k3 _ _ eR, ln, fin H3 u _ _ k3 hu⟩⟩
      rw [decide_eq_false k4]
      refine ⟨_, rfl, sa, _, _, _, rfl, rfl, SqT.of e02, atI_nat (j := 0) rfl, rfl, _, congrArg V.bl (ne 5 (by decide)), ?_⟩
      by_cases k5 : k = 5
      · rw [decide_eq_true k5]
        have pe : pgK k n pg = pagesN pg := by unfold pgK; rw [if_neg k4, if_pos k5]
        rw [pe] at fin
        refine ⟨_, rfl, b, rfl, ⟨_, SqT.of eb⟩, ?_⟩
        refine lc_fil (walk_tupF (sV [])) (p := fun j => hasC (pg.getD j [])) (f := fun j => sV (pg.getD j [])) (fun H' k => SqT.of (k _ _ eb)) (by rw [List.length_map]; omega) (fun j H3 QQ NN hj k3 hy hn => ?_) fun D H3 nD k3 eD => ?_
        · rw [List.length_map] at hj
          rw [show (pg.map sV).getD j (sV []) = sV (pg.getD j []) from getD_of (pg_at hj)]
          refine ⟨rfl, _, rfl, 35, mkS (pg.getD j []), by rw [hash_mk]; rfl, rfl, hasC (pg.getD j []), congrArg V.bl (in_hash _), ?_⟩
          by_cases c : hasC (pg.getD j []) = true
          · rw [c]
            exact ⟨_, rfl, hy c _ _ (Same.refl _) rfl⟩
          · rw [Bool.eq_false_iff.mpr c]
            exact hn (Bool.eq_false_iff.mpr c) _ (Same.refl _)
        · rw [List.length_map] at eD
          have eD : H3 D = some (.lst ((pg.filter hasC).map sV)) := by rw [eD, ← fil_getD pg hasC [], List.map_map]; rfl
          have eb3 := k3 _ _ eb
          refine ⟨_, rfl, .inl ⟨rfl, _, SqL.of (k3 _ _ eR)⟩, _, rfl, b, rfl, ⟨_, SqT.of eb3⟩, ?_⟩
          refine lc_map (K := K) (R := sgR) (S := sgR) (f := fun r => if pg.any hasC = true then wholeN r else r) eb3 (LV.of_signs _ _) (by omega) sgR.mn (fun j y r H4 QQ NN k4 hy er hyr hQ => ?_) fun D2 H4 ys nD2 k4 eD2 ly => ?_
          · have hyr : y = sV r := hyr
            subst hyr
            have rl := pok.2 r (List.mem_of_getElem? er)
            have zr : (mkS r).length ≤ sizeLine := by rw [mkS_len]; exact big_ok (by omega)
            have wh : sV (wholeN r) = V.str (Txt.mul ("#" : Str) (((mkS r).length : Nat) : Int)) := by rw [hash_mk, mkS_len, mul_sign]; rfl
            have hq := fun y (h : y = sV (if pg.any hasC = true then wholeN r else r)) => hQ y H4 (Same.refl _) h
            have af := any_fil (p := pg)
            refine ⟨rfl, _, rfl, pg.any hasC, .inl ⟨_, SqL.of (k4 _ _ eD), ?_⟩, ?_⟩
            · cases z : pg.filter hasC with
              | nil => rw [af.mp z]; rfl
              | cons y ys =>
                have : pg.any hasC = true := by
                  cases q : pg.any hasC with
                  | true => rfl
                  | false => rw [af.mpr q] at z; cases z
                rw [this]; rfl
            · generalize pg.any hasC = hc at hq
              cases hc with
              | true => exact ⟨_, rfl, mkS r, rfl, zr, _, _, rfl, rfl, by rw [mkS_len]; exact mul_okN (by omega) (by decide), hq _ wh.symm⟩
              | false => exact ⟨_, rfl, hq _ rfl⟩
          · refine ⟨D2, _, rfl, .inl ⟨SqL.of eD2, fun p np => ?_⟩⟩
            have pp : pagesN pg = pg.map fun r => if pg.any hasC = true then wholeN r else r := by
              unfold pagesN
              by_cases z : pg.any hasC = true
              · rw [if_pos z]; exact List.map_congr_left fun r _ => by rw [if_pos z]
              · rw [if_neg z]
                conv => lhs; rw [← List.map_id pg]
                exact List.map_congr_left fun r _ => by rw [if_neg z]; rfl
            refine ⟨R, _, _, rfl, rfl, (upd_ne (ne_of_none ((k3.trans k4) _ _ eR) np)).trans ((k3.trans k4) _ _ eR), ln, fin _ _ _ _ (same_upd (k3.trans k4) np) ?_⟩
            rw [pp]
            exact TupR.new sgR.mn ly np
      rw [decide_eq_false k5]
      have pe : pgK k n pg = pg.map (rowK k n) := by unfold pgK; rw [if_neg k4, if_neg k5]
      rw [pe] at fin
      refine ⟨_, rfl, .inl ⟨rfl, _, SqL.of eR⟩, _, rfl, b, rfl, ⟨_, SqT.of eb⟩, ?_⟩
      refine lc_map (K := K) (R := sgR) (S := sgR) (f := rowK k n) eb (LV.of_signs _ _) (by omega) sgR.mn (fun j y r H3 QQ NN k3 hy er hyr hQ => ?_) fun D H3 ys nD k3 eD ly => ?_
      · have hyr : y = sV r := hyr
        subst hyr
        have rl := pok.2 r (List.mem_of_getElem? er)
        exact ⟨rfl, _, rfl, _, rfl, .ref sa, k, n, r, rfl, StpR.mn.to hst (TK.same (kk.trans k3)), ⟨hk, hn1, hn⟩, by omega, by omega, fun H4 k4 => hQ _ _ k4 rfl⟩
      · refine ⟨D, _, rfl, .inl ⟨SqL.of eD, fun p np => ?_⟩⟩
        exact ⟨R, _, _, rfl, rfl, (upd_ne (ne_of_none (k3 _ _ eR) np)).trans (k3 _ _ eR), ln, fin _ _ _ _ (same_upd k3 np) (TupR.new sgR.mn ly np)⟩
    · rintro σ1 H1 ⟨x3, x4, zs, rfl, kk, eR, lz⟩
      rw [lul, List.take_length, ← dk] at lz
      refine ⟨_, rfl, R, _, rfl, .inl ⟨SqL.of eR, fun p np => ?_⟩⟩
      exact q _ _ (same_upd kk np) (TupR.new PgR.mn lz np)
end
end Vf

set_option Elab.async false
set_option linter.all false
set_option maxRecDepth 100000
set_option maxHeartbeats 4000000
namespace Vf
open PySem PySem.Spec PyProof.Rows L2 TL
/-! ### rows shuffled, whatever stands in them -/
theorem seqIxV {n k : Nat} (h : k < n) : seqIndex? (k : Int) n = some k := by
  unfold seqIndex?
  simp only [if_neg (show ¬ ((k : Int) < 0) by omega)]
  rw [if_pos (by rw [decide_eq_true (show (0 : Int) ≤ (k : Int) by omega), decide_eq_true (show (k : Int) < (n : Int) by omega)]; rfl)]
  rfl
theorem erase_permV {α : Type} {z : α} : ∀ {l : List α} {k : Nat}, l[k]? = some z → (z :: l.eraseIdx k).Perm l
  | [], _, h => by cases h
  | x :: l, 0, h => by
    have e := Option.some.inj h
    subst e
    exact List.Perm.refl _
  | x :: l, k + 1, h => (List.Perm.swap x z _).trans (List.Perm.cons x (erase_permV (l := l) (k := k) h))
theorem draw_nat {m r : Int} (h : 0 < m) (e1 : m < 2 → r = 0) (e2 : 2 ≤ m → 0 ≤ r ∧ r < m) : ∃ j : Nat, r = (j : Int) ∧ (j : Int) < m := by
  by_cases c : m < 2
  · exact ⟨0, e1 c, by omega⟩
  · have := e2 (by omega)
    exact ⟨r.toNat, by omega, by omega⟩
section
variable {P : Program} {w : World} {K : PySem.W.Frag} {mg : Str → Option Value} {base : Heap}
def spShufV : Sp := fun vs H Q _ => ∃ (d l r : Addr) (zs : List V), vs = [.ref d, .ref r] ∧ DI d l H ∧ H r = some (.lst zs) ∧ zs.length ≤ 2000 ∧
  ∀ H' p (us : List V), Kp d H H' → DI d l H' → H p = none → H' p = some (.lst us) → us.Perm zs → Q (.ref p) H'
theorem ok_shufV (T : Txt K mg) : FnOk P w K mg base CX0 2 T.a_law_shuffled T.d_law_shuffled ["_law_d", "_law_row"] spShufV := by
  have G_law_draw : FnOk P w K mg base CX0 1 T.a_law_draw T.d_law_draw ["_law_d", "_law_many"] spDraw := ok_draw T
  refine T.D_law_shuffled.F.ok sc_law_shuffled (fun vs H Q E h => ?_) (fun cdv A outer s H vs Q E hr h => ?_)
  · obtain ⟨d, l, r, zs, rfl, _⟩ := h
    rfl
  · obtain ⟨d, l, r, zs, rfl, hD, hr1, hl, q⟩ := h
    refine ⟨_, (pss_cons (ps_set (i := 2) sc_law_shuffled.nd rfl (.inl rfl) (pe_callTy call_list_of (by rfl) T.n_list (by decide +kernel) (pa_cons (pv 1) pa_nil)))
      (pss_cons (ps_set (i := 3) sc_law_shuffled.nd rfl (.inl rfl) (pe_lst pa_nil))
      (pss_cons (ps_while PassesOwn.never (pt_truth (pv 2) (by intro _; rfl)) (pss_one (ps_expr (pe_bm PySem.F.plainAttrs_list PySem.F.slot_list_append PySem.F.type_list_append mt_append (pv 3) (pa_cons (pe_bm PySem.F.plainAttrs_list PySem.F.slot_list_pop PySem.F.type_list_pop mt_popAt (pv 2) (pa_cons (pe_call G_law_draw (hr.mono (by decide)) (by rfl) T.D_law_draw.G T.D_law_draw.F.kp T.D_law_draw.B .nil pass0 (pa_cons (pv 0) (pa_cons (pe_callB call_len_seq (by rfl) T.n_len PySem.boot_len (pa_cons (pv 2) pa_nil)) pa_nil))) pa_nil)) pa_nil)))))
      (pss_one (ps_ret (pv 3)))))), ?_⟩
    refine ⟨_, rfl, r, _, rfl, .inl (SqL.of hr1), fun L nL => ?_⟩
    have D1 := hD.new (o := .lst zs) nL
    have K1 := (Kp.refl d H).new (o := .lst zs) nL
    refine ⟨by show 0 ≤ sizeLine; decide, fun F nF => ?_⟩
    have D2 := D1.new (o := .lst []) nF
    have K2 := K1.new (o := .lst []) nF
    have eL : upd (upd H L (.lst zs)) F (.lst []) L = some (.lst zs) := by rw [upd_ne (ne_of_none upd_same nF)]; exact upd_same
    have nLF : L ≠ F := ne_of_none upd_same nF
    have ndL := hD.nd nL
    have nFH : H F = none := by rw [upd_ne nLF.symm] at nF; exact nF
    have ndF := hD.nd nFH
    refine ⟨fun m σ H' => ∃ (ls fs : List V), m = ls.length ∧ σ = [some (.ref d), some (.ref r), some (.ref L), some (.ref F)] ∧ Kp d H H' ∧ DI d l H' ∧ H' L = some (.lst ls) ∧ H' F = some (.lst fs) ∧ (ls ++ fs).Perm zs,
      ⟨_, zs, [], rfl, rfl, K2, D2, eL, upd_same, by rw [List.append_nil]⟩, fun m σ H' hW => ?_⟩
    obtain ⟨ls, fs, rfl, rfl, K3, D3, e1, e2, hp⟩ := hW
    have pl := hp.length_eq
    rw [List.length_append] at pl
    refine ⟨_, rfl, !ls.isEmpty, .inl ⟨_, SqL.of e1, rfl⟩, ?_⟩
    cases ls with
    | nil =>
      exact ⟨_, rfl, q H' F fs K3 D3 nFH e2 hp⟩
    | cons z0 ls =>
      rw [List.length_cons] at pl
      refine ⟨fun σ' H1 => ∃ (ls2 fs2 : List V), ls2.length = ls.length ∧ σ' = [some (.ref d), some (.ref r), some (.ref L), some (.ref F)] ∧ Kp d H H1 ∧ DI d l H1 ∧ H1 L = some (.lst ls2) ∧ H1 F = some (.lst fs2) ∧ (ls2 ++ fs2).Perm zs, fun σ' H1 hN => ?_, ?_⟩
      · obtain ⟨ls2, fs2, el, rfl, a1, a2, a3, a4, a5⟩ := hN
        exact ⟨ls2.length, by rw [List.length_cons]; omega, ls2, fs2, rfl, rfl, a1, a2, a3, a4, a5⟩
      · refine ⟨.ref F, rfl, .inl ⟨rfl, _, SqL.of e2⟩, .ref L, rfl, .inl ⟨rfl, _, SqL.of e1⟩, _, rfl, _, rfl, L, _, rfl, .inl (SqL.of e1), d, l, _, rfl, D3, by rw [List.length_cons]; omega, fun H4 i K4 D4 i1 i2 => ?_⟩
        have e1' := K4 _ _ ndL.1 e1
        have e2' := K4 _ _ ndF.1 e2
        obtain ⟨k, rfl, hk⟩ := draw_nat (by rw [List.length_cons]; omega) i1 i2
        have hk : k < (z0 :: ls).length := by omega
        have g : (z0 :: ls)[k]? = some (z0 :: ls)[k] := List.getElem?_eq_getElem hk
        obtain ⟨z, ez⟩ : ∃ z, (z0 :: ls)[k] = z := ⟨_, rfl⟩
        rw [ez] at g
        have lk : (z0 :: ls).length = ls.length + 1 := rfl
        refine ⟨L, _, (k : Int), k, z, rfl, rfl, e1', by omega, by omega, seqIxV hk, g, ?_⟩
        have e2'' : upd H4 L (.lst ((z0 :: ls).eraseIdx k)) F = some (.lst fs) := by rw [upd_ne nLF.symm]; exact e2'
        refine ⟨F, _, _, rfl, rfl, e2'', szN (by omega), ?_⟩
        refine ⟨(z0 :: ls).eraseIdx k, fs ++ [z], ?_, rfl, ((K3.trans K4).mut nL).mut nFH, (D4.at ndL.1 ndL.2).at ndF.1 ndF.2, ?_, upd_same, ?_⟩
        · rw [List.length_eraseIdx_of_lt hk]; rfl
        · rw [upd_ne nLF, upd_same]
        · have p1 : ((z0 :: ls).eraseIdx k ++ (fs ++ [z])).Perm ((z0 :: ls) ++ fs) := by
            have p2 : (z :: (z0 :: ls).eraseIdx k).Perm (z0 :: ls) := erase_permV g
            refine (List.Perm.append_left _ (List.perm_append_singleton z fs)).trans ?_
            refine List.perm_middle.trans ?_
            exact List.Perm.append_right fs p2
          exact p1.trans hp
end
end Vf

set_option Elab.async false
set_option linter.all false
set_option maxRecDepth 100000
set_option maxHeartbeats 4000000
namespace Vf
open PySem PySem.Spec PyProof.Rows L2 TL
theorem cutT {zs : List Nat} {j : Nat} : cutS (mkS zs) none (some (j : Int)) = mkS (zs.take j) := by
  unfold cutS
  rw [HT.sIx_nat, HT.sIx_none, mkS_len]
  show mkS ((zs.drop 0).take (min j zs.length - 0)) = _
  rw [List.drop_zero, Nat.sub_zero]
  by_cases c : j ≤ zs.length
  · rw [Nat.min_eq_left c]
  · rw [Nat.min_eq_right (by omega), List.take_of_length_le (Nat.le_refl _), List.take_of_length_le (by omega)]
theorem in_sgs {v : V} {zs : List Nat} (h : v ∈ zs.map fun c => sV [c]) : ∃ c, v = sV [c] ∧ c ∈ zs := by
  obtain ⟨c, hc, rfl⟩ := List.mem_map.mp h
  exact ⟨c, rfl, hc⟩
theorem str_mk (x : Str) : V.str x = sV x.cps.toList := by
  show V.str x = V.str ⟨x.cps.toList.toArray⟩
  rw [Array.toArray_toList]
section
variable {P : Program} {w : World} {K : PySem.W.Frag} {mg : Str → Option Value} {base : Heap}
def spSigns : Sp := fun vs H Q _ => ∃ (d l : Addr) (n : Nat), vs = [.ref d, nV n] ∧ DI d l H ∧ n ≤ 200 ∧ ∀ H' zs, Kp d H H' → DI d l H' → zs.length = n → Q (sV zs) H'
theorem ok_signs (T : Txt K mg) : FnOk P w K mg base CX0 3 T.a_law_any_signs T.d_law_any_signs ["_law_d", "_law_wide"] spSigns := by
  have G_law_pick : FnOk P w K mg base CX0 2 T.a_law_pick T.d_law_pick ["_law_d", "_law_row"] (spPick K) := ok_pick T
  refine T.D_law_any_signs.F.ok sc_law_any_signs (fun vs H Q E h => ?_) (fun cdv A outer s H vs Q E hr h => ?_)
  · obtain ⟨d, l, n, rfl, _⟩ := h
    rfl
  · obtain ⟨d, l, n, rfl, hD, hn, q⟩ := h
    refine ⟨_, (pss_cons (ps_set (i := 2) sc_law_any_signs.nd rfl (.inr rfl) pe_str)
      (pss_one (ps_ret (pe_join pe_str (pe_lc (own := [("_law_k", 3)]) (g := gName 3) (tt := tYes) rfl sc_law_any_signs.nd (pi_range1 (by rfl) T.n_range (pa_cons (pv 1) pa_nil)) (blkOk_by (own := [("_law_k", 3)]) (N := ["_law_d", "_law_wide", "_law_signs", "_law_k"]) (sc := (defScope s_law_any_signs)) (by decide +kernel)) (fun _ _ _ _ _ => (pg_name (i := 3) sc_law_any_signs.nd rfl (.inl rfl))) (fun _ _ _ _ _ => pts_nil) (fun _ _ _ _ _ => (pe_call G_law_pick (hr.mono (by decide)) (by rfl) T.D_law_pick.G T.D_law_pick.F.kp T.D_law_pick.B .nil pass0 (pa_cons (pv 0) (pa_cons (pv 2) pa_nil))))))))), ?_⟩
    refine ⟨⟨_, rfl⟩, _, rfl, (n : Int), rfl, by omega, by omega, ?_⟩
    rw [toNat_k]
    refine fun D nD => ?_
    refine lc_it walk_rangeN (PvS (fun z => z.length = 1) d l H D) (PvS.start hD nD) (fun _ _ _ _ => trivial) ?_ ?_
    · rintro i x H1 H2 hi pv ⟨rfl, rfl⟩
      refine ⟨rfl, _, rfl, _, rfl, d, l, _, _, rfl, pv.dice, .inr ⟨_, str_mk _, rfl⟩, by decide +kernel, by decide +kernel, fun H3 v k3 D3 hv => ?_⟩
      obtain ⟨c, rfl, _⟩ := in_sgs hv
      exact pv.step hD nD (by omega) k3 D3 rfl
    · rintro H1 ⟨zss, hl, hR, k1, D1, e1⟩
      refine ⟨_, D, zss.map mkS, rfl, rfl, .inl (SqL.of (by rw [e1, map_sV])), ?_, ?_⟩
      · rw [sum_len, flat_one hR, show (("" : Str)).length = 0 from by rw [empty_mk, mkS_len]; rfl]; exact big_ok (by omega)
      rw [join_mk]
      exact q _ _ k1 D1 (by rw [flat_one hR, hl])
def spRowA : Sp := fun vs H Q _ => ∃ (d l : Addr) (n : Nat), vs = [.ref d, nV n] ∧ DI d l H ∧ 1 ≤ n ∧ n ≤ 200 ∧ ∀ H' zs, Kp d H H' → DI d l H' → zs.length ≤ n → Q (sV zs) H'
theorem ok_rowA (T : Txt K mg) : FnOk P w K mg base CX0 4 T.a_law_any_row T.d_law_any_row ["_law_d", "_law_wide"] spRowA := by
  have G_law_draw : FnOk P w K mg base CX0 1 T.a_law_draw T.d_law_draw ["_law_d", "_law_many"] spDraw := ok_draw T
  have G_law_pick : FnOk P w K mg base CX0 2 T.a_law_pick T.d_law_pick ["_law_d", "_law_row"] (spPick K) := ok_pick T
  have G_law_any_signs : FnOk P w K mg base CX0 3 T.a_law_any_signs T.d_law_any_signs ["_law_d", "_law_wide"] spSigns := ok_signs T
  refine T.D_law_any_row.F.ok sc_law_any_row (fun vs H Q E h => ?_) (fun cdv A outer s H vs Q E hr h => ?_)
  · obtain ⟨d, l, n, rfl, _⟩ := h
    rfl
  · obtain ⟨d, l, n, rfl, hD, hn1, hn, q⟩ := h
    refine ⟨_, (pss_cons (ps_set (i := 2) sc_law_any_row.nd rfl (.inl rfl) (pe_call G_law_draw (hr.mono (by decide)) (by rfl) T.D_law_draw.G T.D_law_draw.F.kp T.D_law_draw.B .nil pass0 (pa_cons (pv 0) (pa_cons pe_int pa_nil))))
      (pss_cons (ps_if (pt_cmpR op_eq (pv 2) pe_int (nomark _)) (pss_one (ps_ret (pe_op op_mul_str pe_str (pv 1)))) pss_nil)
      (pss_cons (ps_if (pt_cmpR op_eq (pv 2) pe_int (nomark _)) (pss_cons (ps_set (i := 3) sc_law_any_row.nd rfl (.inl rfl) (pe_call G_law_draw (hr.mono (by decide)) (by rfl) T.D_law_draw.G T.D_law_draw.F.kp T.D_law_draw.B .nil pass0 (pa_cons (pv 0) (pa_cons (pv 1) pa_nil))))
      (pss_one (ps_ret (pe_op op_add_str (pe_op op_add_str (pe_op op_mul_str pe_str (pv 3)) pe_str) (pe_op op_mul_str (pe_call G_law_pick (hr.mono (by decide)) (by rfl) T.D_law_pick.G T.D_law_pick.F.kp T.D_law_pick.B .nil pass0 (pa_cons (pv 0) (pa_cons pe_str pa_nil))) (pe_op op_sub (pe_op op_sub (pv 1) (pv 3)) pe_int)))))) pss_nil)
      (pss_cons (ps_if (pt_cmpR op_eq (pv 2) pe_int (nomark _)) (pss_one (ps_ret (pe_call G_law_any_signs (hr.mono (by decide)) (by rfl) T.D_law_any_signs.G T.D_law_any_signs.F.kp T.D_law_any_signs.B .nil pass0 (pa_cons (pv 0) (pa_cons (pv 1) pa_nil))))) pss_nil)
      (pss_cons (ps_if (pt_cmpR op_lt (pv 2) pe_int (nomark _)) (pss_one (ps_ret (pe_op op_mul_str pe_str (pv 1)))) pss_nil)
      (pss_cons (ps_set (i := 4) sc_law_any_row.nd rfl (.inl rfl) pe_str)
      (pss_cons (ps_while PassesOwn.never (pt_cmpR op_lt (pe_callB call_len_str (by rfl) T.n_len PySem.boot_len (pa_cons (pv 4) pa_nil)) (pv 1) (nomark _)) (pss_one (ps_set (i := 4) sc_law_any_row.nd rfl (.inl rfl) (pe_op op_add_str (pv 4) (pe_op op_mul_str (pe_call G_law_pick (hr.mono (by decide)) (by rfl) T.D_law_pick.G T.D_law_pick.F.kp T.D_law_pick.B .nil pass0 (pa_cons (pv 0) (pa_cons (pe_lst (pa_cons pe_str (pa_cons pe_str (pa_cons pe_str (pa_cons pe_str (pa_cons pe_str (pa_cons pe_str (pa_cons pe_str (pa_cons pe_str pa_nil))))))))) pa_nil))) (pe_op op_add pe_int (pe_call G_law_draw (hr.mono (by decide)) (by rfl) T.D_law_draw.G T.D_law_draw.F.kp T.D_law_draw.B .nil pass0 (pa_cons (pv 0) (pa_cons pe_int pa_nil)))))))))
      (pss_one (ps_ret (pe_slice sl_str (pv 4) po_none (po_some (pv 1)))))))))))), ?_⟩
    refine ⟨_, rfl, d, l, 8, rfl, hD, by decide, fun H1 r k1 D1 a1 a2 => ?_⟩
    obtain ⟨kd, rfl, hkd⟩ := draw_nt (by decide) a1 a2
    have mok : ∀ (z : Str) (m : Nat), z.length ≤ 10000 → m ≤ 1000 → MulOk z ((m : Nat) : Int) := fun z m h1 h2 => mul_okN h2 h1
    refine ⟨_, rfl, rfl, _, rfl, ?_⟩
    by_cases c0 : kd = 0
    · rw [show decide (V.int ((kd : Nat) : Int) = V.int 0) = true from by rw [c0]; rfl]
      refine ⟨_, rfl, _, _, rfl, rfl, mok _ _ (by decide) (by omega), ?_⟩
      rw [hash_mk, mul_sign]
      exact q _ _ k1 D1 (by rw [List.length_replicate]; exact Nat.le_refl _)
    rw [show decide (V.int ((kd : Nat) : Int) = V.int 0) = false from decide_eq_false fun z => c0 (by have := V.int.inj z; omega)]
    refine ⟨_, rfl, rfl, _, rfl, ?_⟩
    by_cases c1 : kd = 1
    · rw [show decide (V.int ((kd : Nat) : Int) = V.int 1) = true from by rw [c1]; rfl]
      refine ⟨_, rfl, _, rfl, d, l, (n : Int), rfl, D1, by omega, fun H2 r2 k2 D2 b1 b2 => ?_⟩
      obtain ⟨at0, rfl, hat⟩ := draw_nt (by omega) b1 b2
      refine ⟨_, rfl, _, _, rfl, rfl, mok _ _ (by decide) (by omega), _, _, rfl, rfl, ?_, ?_⟩
      · rw [blank_mk, mul_sign, hash_mk, mkS_len, mkS_len, List.length_replicate]; exact big_ok (by show at0 + 1 ≤ _; omega)
      refine ⟨_, rfl, d, l, _, _, rfl, D2, .inr ⟨_, str_mk _, rfl⟩, by decide, by decide, fun H3 v k3 D3 hv => ?_⟩
      obtain ⟨c, rfl, _⟩ := in_sgs hv
      have e : ((n : Nat) : Int) - ((at0 : Nat) : Int) - 1 = ((n - at0 - 1 : Nat) : Int) := by omega
      refine ⟨_, rfl, _, rfl, _, _, rfl, rfl, _, _, rfl, rfl, mkS [c], ((n - at0 - 1 : Nat) : Int), rfl, by rw [← e], mok _ _ (by rw [mkS_len]; show 1 ≤ _; omega) (by omega), _, _, rfl, rfl, ?_, ?_⟩
      · rw [mul_sign, blank_mk, mul_sign, hash_mk, mkS_app, mkS_len, mkS_len, List.length_append, List.length_replicate, List.length_replicate]; exact big_ok (by show at0 + 1 + _ ≤ _; omega)
      rw [mul_sign, blank_mk, mul_sign, hash_mk, mkS_app, mkS_app]
      exact q _ _ ((k1.trans k2).trans k3) D3 (by rw [List.length_append, List.length_append, List.length_replicate, List.length_replicate]; show at0 + 1 + _ ≤ _; omega)
    rw [show decide (V.int ((kd : Nat) : Int) = V.int 1) = false from decide_eq_false fun z => c1 (by have := V.int.inj z; omega)]
    refine ⟨_, rfl, rfl, _, rfl, ?_⟩
    by_cases c2 : kd = 2
    · rw [show decide (V.int ((kd : Nat) : Int) = V.int 2) = true from by rw [c2]; rfl]
      exact ⟨_, rfl, _, rfl, d, l, n, rfl, D1, hn, fun H2 zs k2 D2 hz => q _ _ (k1.trans k2) D2 (by omega)⟩
    rw [show decide (V.int ((kd : Nat) : Int) = V.int 2) = false from decide_eq_false fun z => c2 (by have := V.int.inj z; omega)]
    refine ⟨_, rfl, _, _, rfl, rfl, _, rfl, ?_⟩
    by_cases c5 : kd < 5
    · rw [show decide (((kd : Nat) : Int) < 5) = true from decide_eq_true (by omega)]
      refine ⟨_, rfl, _, _, rfl, rfl, mok _ _ (by decide) (by omega), ?_⟩
      rw [blank_mk, mul_sign]
      exact q _ _ k1 D1 (by rw [List.length_replicate]; exact Nat.le_refl _)
    rw [show decide (((kd : Nat) : Int) < 5) = false from decide_eq_false (by omega)]
    refine ⟨fun m σ H' => ∃ zs : List Nat, m = n + 4 - zs.length ∧ zs.length ≤ n + 3 ∧ σ = [some (.ref d), some (nV n), some (nV kd), none, some (sV zs)] ∧ Kp d H H' ∧ DI d l H',
      ⟨_, [], rfl, Nat.zero_le _, by rw [show (sV [] : V) = V.str ("" : Str) from by rw [empty_mk]; rfl]; rfl, k1, D1⟩, fun m σ H' hW => ?_⟩
    obtain ⟨zs, rfl, hz, rfl, kk, DD⟩ := hW
    have sz : (mkS zs).length ≤ sizeLine := by rw [mkS_len]; exact big_ok (by omega)
    refine ⟨_, rfl, mkS zs, rfl, sz, _, rfl, _, _, rfl, rfl, _, rfl, ?_⟩
    by_cases cl : zs.length < n
    · rw [show decide ((((mkS zs).length : Nat) : Int) < ((n : Nat) : Int)) = true from decide_eq_true (by rw [mkS_len]; omega)]
      refine ⟨fun σ' H1 => ∃ zs2 : List Nat, zs.length < zs2.length ∧ zs2.length ≤ n + 3 ∧ σ' = [some (.ref d), some (nV n), some (nV kd), none, some (sV zs2)] ∧ Kp d H H1 ∧ DI d l H1, fun σ' H1 hN => ?_, ?_⟩
      · obtain ⟨zs2, l1, l2, rfl, a1, a2⟩ := hN
        exact ⟨n + 4 - zs2.length, by omega, zs2, rfl, l2, rfl, a1, a2⟩
      · refine ⟨_, rfl, _, rfl, by decide, fun M nM => ?_⟩
        have D3 := DD.new (o := .lst [V.str "#", V.str " ", V.str "#", V.str "a", V.str " ", V.str "_", V.str "~", V.str "-"]) nM
        refine ⟨d, l, _, [V.str "#", V.str " ", V.str "#", V.str "a", V.str " ", V.str "_", V.str "~", V.str "-"], rfl, D3, .inl ⟨M, rfl, (DD.nd nM).1, SqL.of upd_same⟩, by decide, by decide, fun H4 v k4 D4 hv => ?_⟩
        have k34 := (kk.new (o := .lst [V.str "#", V.str " ", V.str "#", V.str "a", V.str " ", V.str "_", V.str "~", V.str "-"]) nM).trans k4
        have hv2 : v ∈ [35, 32, 35, 97, 32, 95, 126, 45].map fun c => sV [c] := by
          have e : [V.str "#", V.str " ", V.str "#", V.str "a", V.str " ", V.str "_", V.str "~", V.str "-"] = [35, 32, 35, 97, 32, 95, 126, 45].map fun c => sV [c] := by decide +kernel
          rw [← e]; exact hv
        obtain ⟨c, rfl, _⟩ := in_sgs hv2
        refine ⟨_, rfl, d, l, 4, rfl, D4, by decide, fun H5 r5 k5 D5 b1 b2 => ?_⟩
        obtain ⟨m, rfl, hm⟩ := draw_nt (by decide) b1 b2
        have e : (1 : Int) + ((m : Nat) : Int) = ((1 + m : Nat) : Int) := by omega
        refine ⟨_, _, rfl, rfl, mkS [c], ((1 + m : Nat) : Int), rfl, by rw [← e], mok _ _ (by rw [mkS_len]; show 1 ≤ _; omega) (by omega), _, _, rfl, rfl, ?_, ?_⟩
        · rw [mul_sign, mkS_len, mkS_len, List.length_replicate]; exact big_ok (by omega)
        · rw [mul_sign, mkS_app]
          exact ⟨zs ++ List.replicate (1 + m) c, by rw [List.length_append, List.length_replicate]; omega, by rw [List.length_append, List.length_replicate]; omega, rfl, k34.trans k5, D5⟩
    · rw [show decide ((((mkS zs).length : Nat) : Int) < ((n : Nat) : Int)) = false from decide_eq_false (by rw [mkS_len]; omega)]
      refine ⟨_, rfl, _, rfl, _, rfl, mkS zs, rfl, sz, ?_⟩
      rw [cutT]
      exact q _ _ kk DD (by rw [List.length_take]; exact Nat.min_le_left _ _)
end
end Vf

set_option Elab.async false
set_option linter.all false
set_option maxRecDepth 100000
set_option maxHeartbeats 4000000
namespace Vf
open PySem PySem.Spec PyProof.Rows L2 TL
theorem pick3 {a b c : Nat} {k : Nat} (h : k < 3) : ∃ m : Nat, ([V.int ((a : Nat) : Int), V.int ((b : Nat) : Int), V.int ((c : Nat) : Int)] : List V)[k]? = some (V.int ((m : Nat) : Int)) ∧ (m = a ∨ m = b ∨ m = c) := by
  match k, h with
  | 0, _ => exact ⟨a, rfl, .inl rfl⟩
  | 1, _ => exact ⟨b, rfl, .inr (.inl rfl)⟩
  | 2, _ => exact ⟨c, rfl, .inr (.inr rfl)⟩
theorem add1 (n : Nat) : V.int (1 + (n : Int)) = nV (n + 1) := by
  unfold nV
  exact congrArg V.int (by omega)
section
variable {P : Program} {w : World} {K : PySem.W.Frag} {mg : Str → Option Value} {base : Heap}
def spLookA : Sp := fun vs H Q _ => ∃ (d l : Addr), vs = [.ref d] ∧ DI d l H ∧ ∀ H' v lk, Kp d H H' → DI d l H' → LkR H' v lk → LkOk lk → Q v H'
theorem ok_lookA (T : Txt K mg) : FnOk P w K mg base CX0 5 T.a_law_any_look T.d_law_any_look ["_law_d"] spLookA := by
  have G_law_draw : FnOk P w K mg base CX0 1 T.a_law_draw T.d_law_draw ["_law_d", "_law_many"] spDraw := ok_draw T
  have G_law_pick : FnOk P w K mg base CX0 2 T.a_law_pick T.d_law_pick ["_law_d", "_law_row"] (spPick K) := ok_pick T
  have G_law_rare : FnOk P w K mg base CX0 2 T.a_law_rare T.d_law_rare ["_law_d", "_law_many"] spRare := ok_rare T
  have G_law_any_row : FnOk P w K mg base CX0 4 T.a_law_any_row T.d_law_any_row ["_law_d", "_law_wide"] spRowA := ok_rowA T
  refine T.D_law_any_look.F.ok sc_law_any_look (fun vs H Q E h => ?_) (fun cdv A outer s H vs Q E hr h => ?_)
  · obtain ⟨d, l, rfl, _⟩ := h
    rfl
  · obtain ⟨d, l, rfl, hD, q⟩ := h
    refine ⟨_, (pss_cons (ps_set (i := 1) sc_law_any_look.nd rfl (.inl rfl) (pe_call G_law_pick (hr.mono (by decide)) (by rfl) T.D_law_pick.G T.D_law_pick.F.kp T.D_law_pick.B .nil pass0 (pa_cons (pv 0) (pa_cons (pe_lst (pa_cons pe_int (pa_cons pe_int (pa_cons pe_int (pa_cons pe_int (pa_cons pe_int (pa_cons pe_int pa_nil))))))) pa_nil))))
      (pss_cons (ps_set (i := 2) sc_law_any_look.nd rfl (.inr rfl) (pe_op op_add pe_int (pe_call G_law_draw (hr.mono (by decide)) (by rfl) T.D_law_draw.G T.D_law_draw.F.kp T.D_law_draw.B .nil pass0 (pa_cons (pv 0) (pa_cons pe_int pa_nil)))))
      (pss_cons (ps_set (i := 3) sc_law_any_look.nd rfl (.inr rfl) (pe_op op_add pe_int (pe_call G_law_draw (hr.mono (by decide)) (by rfl) T.D_law_draw.G T.D_law_draw.F.kp T.D_law_draw.B .nil pass0 (pa_cons (pv 0) (pa_cons pe_int pa_nil)))))
      (Evl.pss_cut (ps_if (pt_val (pe_call G_law_rare (hr.mono (by decide)) (by rfl) T.D_law_rare.G T.D_law_rare.F.kp T.D_law_rare.B .nil pass0 (pa_cons (pv 0) (pa_cons pe_int pa_nil)))) (pss_cons (ps_set (i := 4) sc_law_any_look.nd rfl (.inl rfl) (pe_call G_law_draw (hr.mono (by decide)) (by rfl) T.D_law_draw.G T.D_law_draw.F.kp T.D_law_draw.B .nil pass0 (pa_cons (pv 0) (pa_cons pe_int pa_nil))))
      (pss_cons (ps_set (i := 1) sc_law_any_look.nd rfl (.inl rfl) (pe_op op_add pe_int (pe_call G_law_draw (hr.mono (by decide)) (by rfl) T.D_law_draw.G T.D_law_draw.F.kp T.D_law_draw.B .nil pass0 (pa_cons (pv 0) (pa_cons (pe_ix ix_list (pe_lst (pa_cons pe_int (pa_cons pe_int (pa_cons pe_int pa_nil)))) (pv 4) (fun _ _ => rfl)) pa_nil)))))
      (pss_cons (ps_set (i := 2) sc_law_any_look.nd rfl (.inr rfl) (pe_op op_add pe_int (pe_call G_law_draw (hr.mono (by decide)) (by rfl) T.D_law_draw.G T.D_law_draw.F.kp T.D_law_draw.B .nil pass0 (pa_cons (pv 0) (pa_cons (pe_ix ix_list (pe_lst (pa_cons pe_int (pa_cons pe_int (pa_cons pe_int pa_nil)))) (pv 4) (fun _ _ => rfl)) pa_nil)))))
      (pss_one (ps_set (i := 3) sc_law_any_look.nd rfl (.inr rfl) (pe_op op_add pe_int (pe_call G_law_draw (hr.mono (by decide)) (by rfl) T.D_law_draw.G T.D_law_draw.F.kp T.D_law_draw.B .nil pass0 (pa_cons (pv 0) (pa_cons (pe_ix ix_list (pe_lst (pa_cons pe_int (pa_cons pe_int (pa_cons pe_int pa_nil)))) (pv 4) (fun _ _ => rfl)) pa_nil))))))))) pss_nil)
      (pss_one (ps_ret (pe_callTy call_tuple_of (by rfl) T.n_tuple (by decide +kernel) (pa_cons (pe_lc (own := [("_law_p", 5)]) (g := gName 5) (tt := tYes) rfl sc_law_any_look.nd (pi_range1 (by rfl) T.n_range (pa_cons (pv 1) pa_nil)) (blkOk_by (own := [("_law_p", 5)]) (N := ["_law_d", "_law_many", "_law_high", "_law_wide", "_law_kind", "_law_p", "_law_r"]) (sc := (defScope s_law_any_look)) (by decide +kernel)) (fun _ _ _ _ _ => (pg_name (i := 5) sc_law_any_look.nd rfl (.inl rfl))) (fun _ _ _ _ _ => pts_nil) (fun _ _ _ _ _ => (pe_callTy (T := "tuple") (r := rTupleOf K) call_tuple_of (by rfl) T.n_tuple (by decide +kernel) (pa_cons (pe_lc (own := [("_law_r", 6)]) (g := gName 6) (tt := tYes) rfl sc_law_any_look.nd (pi_range1 (by rfl) T.n_range (pa_cons (pv 2) pa_nil)) (blkOk_by (own := [("_law_r", 6)]) (N := ["_law_d", "_law_many", "_law_high", "_law_wide", "_law_kind", "_law_p", "_law_r"]) (sc := (rel2 _ (defScope s_law_any_look))) (by decide +kernel)) (fun _ _ _ _ _ => (pg_name (i := 6) sc_law_any_look.nd rfl (.inl rfl))) (fun _ _ _ _ _ => pts_nil) (fun _ _ _ _ _ => (pe_call G_law_any_row (hr.mono (by decide)) (by rfl) T.D_law_any_row.G T.D_law_any_row.F.kp T.D_law_any_row.B .nil pass0 (pa_cons (pv 0) (pa_cons (pv 3) pa_nil))))) pa_nil)))) pa_nil)))))))), ?_⟩
    refine ⟨_, rfl, by decide, fun M nM => ?_⟩
    refine ⟨d, l, _, _, rfl, hD.new nM, .inl ⟨M, rfl, (hD.nd nM).1, SqL.of upd_same⟩, by decide, by decide, fun H1 v k1 D1 hv => ?_⟩
    have k1 := ((Kp.refl d H).new nM).trans k1
    obtain ⟨m, rfl, hm⟩ : ∃ m : Nat, v = nV m ∧ m ≤ 3 := by
      simp only [List.mem_cons, List.not_mem_nil, or_false] at hv
      rcases hv with rfl | rfl | rfl | rfl | rfl | rfl
      · exact ⟨0, rfl, by decide⟩
      · exact ⟨1, rfl, by decide⟩
      · exact ⟨1, rfl, by decide⟩
      · exact ⟨2, rfl, by decide⟩
      · exact ⟨2, rfl, by decide⟩
      · exact ⟨3, rfl, by decide⟩
    refine ⟨_, rfl, d, l, 5, rfl, D1, by decide, fun H2 r2 k2 D2 a1 a2 => ?_⟩
    obtain ⟨hg, rfl, hhg⟩ := draw_nt (by decide) a1 a2
    refine ⟨_, _, rfl, rfl, ?_⟩
    refine ⟨_, rfl, d, l, 14, rfl, D2, by decide, fun H3 r3 k3 D3 b1 b2 => ?_⟩
    obtain ⟨wd, rfl, hwd⟩ := draw_nt (by decide) b1 b2
    refine ⟨_, _, rfl, rfl, ?_⟩
    have k13 := (k1.trans k2).trans k3
    refine ⟨fun σ' H' => ∃ (m hg wd : Nat) (x4 : Option V), σ' = [some (.ref d), some (nV m), some (nV hg), some (nV wd), x4, none, none] ∧ m ≤ 25 ∧ hg ≤ 200 ∧ 1 ≤ wd ∧ wd ≤ 200 ∧ Kp d H H' ∧ DI d l H', ?_, ?_⟩
    · refine ⟨_, rfl, d, l, 16, rfl, D3, by decide, fun H4 b k4 D4 => ⟨_, rfl, ?_⟩⟩
      have k14 := k13.trans k4
      cases b with
      | false => exact ⟨m, hg + 1, wd + 1, none, by show [some (V.ref d), some (nV m), some (V.int (1 + (hg : Int))), some (V.int (1 + (wd : Int))), none, none, none] = _; rw [add1, add1], by omega, by omega, by omega, by omega, k14, D4⟩
      | true =>
        refine ⟨_, rfl, d, l, 3, rfl, D4, by decide, fun H5 r5 k5 D5 c1 c2 => ?_⟩
        obtain ⟨kd, rfl, hkd⟩ := draw_nt (by decide) c1 c2
        have k15 := k14.trans k5
        obtain ⟨m1, e1, o1⟩ := pick3 (a := 2) (b := 2) (c := 24) (k := kd) (by omega)
        obtain ⟨m2, e2, o2⟩ := pick3 (a := 3) (b := 200) (c := 2) (k := kd) (by omega)
        obtain ⟨m3, e3, o3⟩ := pick3 (a := 200) (b := 3) (c := 4) (k := kd) (by omega)
        refine ⟨_, rfl, by decide, fun N1 nN1 => ⟨_, rfl, N1, _, ((kd : Nat) : Int), _, rfl, rfl, SqL.of upd_same, atI_nat e1, d, l, _, rfl, D5.new nN1, by omega, fun H6 r6 k6 D6 f1 f2 => ?_⟩⟩
        obtain ⟨g1, rfl, hg1⟩ := draw_nt (by omega) f1 f2
        have k16 := (k15.new (o := _) nN1).trans k6
        refine ⟨_, _, rfl, rfl, ?_⟩
        refine ⟨_, rfl, by decide, fun N2 nN2 => ⟨_, rfl, N2, _, ((kd : Nat) : Int), _, rfl, rfl, SqL.of upd_same, atI_nat e2, d, l, _, rfl, D6.new nN2, by omega, fun H7 r7 k7 D7 f1 f2 => ?_⟩⟩
        obtain ⟨g2, rfl, hg2⟩ := draw_nt (by omega) f1 f2
        have k17 := (k16.new (o := _) nN2).trans k7
        refine ⟨_, _, rfl, rfl, ?_⟩
        refine ⟨_, rfl, by decide, fun N3 nN3 => ⟨_, rfl, N3, _, ((kd : Nat) : Int), _, rfl, rfl, SqL.of upd_same, atI_nat e3, d, l, _, rfl, D7.new nN3, by omega, fun H8 r8 k8 D8 f1 f2 => ?_⟩⟩
        obtain ⟨g3, rfl, hg3⟩ := draw_nt (by omega) f1 f2
        have k18 := (k17.new (o := _) nN3).trans k8
        refine ⟨_, _, rfl, rfl, ?_⟩
        exact ⟨g1 + 1, g2 + 1, g3 + 1, some (nV kd), by show [some (V.ref d), some (V.int (1 + (g1 : Int))), some (V.int (1 + (g2 : Int))), some (V.int (1 + (g3 : Int))), some (nV kd), none, none] = _; rw [add1, add1, add1], by omega, by omega, by omega, by omega, k18, D8⟩
    · rintro σ1 H4 ⟨m, hg, wd, x4, rfl, hm, hhg, hw1, hw2, k4, D4⟩
      refine ⟨_, rfl, (m : Int), rfl, by omega, by omega, ?_⟩
      rw [toNat_k]
      refine fun D nD => ?_
      have ndD := D4.nd nD
      refine lc_it walk_rangeN (fun i H' => ∃ (us : List V) (xs : List Pg), H' D = some (.lst us) ∧ LV (PgR H') us xs ∧ xs.length = i ∧ (∀ x ∈ xs, PgOk x) ∧ Kp d H4 H' ∧ DI d l H') ⟨[], [], upd_same, LV.nil, rfl, (fun _ h => nomatch h), (Kp.refl d H4).new nD, D4.new nD⟩ (fun _ _ _ _ => trivial) ?_ ?_
      · rintro i x H5 H6 hi ⟨us, xs, eD, lv, lx, hx2, k6, D6⟩ ⟨rfl, rfl⟩
        refine ⟨rfl, _, rfl, (hg : Int), rfl, by omega, by omega, ?_⟩
        rw [toNat_k]
        refine fun D2 nD2 => ?_
        refine lc_it walk_rangeN (PvS (fun z => z.length ≤ 200) d l H6 D2) (PvS.start D6 nD2) (fun _ _ _ _ => trivial) ?_ ?_
        · rintro j y H7 H8 hj pv ⟨rfl, rfl⟩
          refine ⟨rfl, _, rfl, _, rfl, d, l, wd, rfl, pv.dice, hw1, hw2, fun H9 zs k9 D9 hz => ?_⟩
          exact pv.step D6 nD2 (by omega) k9 D9 (Nat.le_trans hz hw2)
        · rintro H7 ⟨zss, hl, hR, k7, D7, e7⟩
          refine ⟨D2, _, rfl, .inl ⟨SqL.of e7, fun p np => ?_⟩⟩
          have eD7 := k7 _ _ ndD.1 eD
          have t67 := kpTup D6 k7
          have tn : TK H7 (upd H7 p (.tup (zss.map sV))) := TK.new (TK.refl _) np
          have hp : PgR (upd H7 p (.tup (zss.map sV))) (.ref p) zss := PgR.iff.mpr ⟨p, rfl, upd_same⟩
          have lv8 : LV (PgR (upd H7 p (.tup (zss.map sV)))) us xs := lv.mono fun _ _ z => PgR.mn.to z (TK.trans t67 tn)
          have eD8 := (upd_ne (o := .tup (zss.map sV)) (ne_of_none eD7 np)).trans eD7
          have k8 := (k6.trans k7).new (o := .tup (zss.map sV)) np
          have D8 := D7.new (o := .tup (zss.map sV)) np
          generalize upd H7 p (.tup (zss.map sV)) = H8 at hp lv8 eD8 k8 D8
          have lvl := lv8.1
          refine ⟨us, eD8, szN (by omega), us ++ [.ref p], xs ++ [zss], upd_same, (lv8.snoc hp).mono fun _ _ z => PgR.mn.to z (TK.mut (TK.refl _) eD8), by rw [List.length_append, lx]; rfl, fun y hy => ?_, k8.mut nD, D8.at ndD.1 ndD.2⟩
          rcases List.mem_append.mp hy with h | h
          · exact hx2 y h
          · rw [List.mem_singleton.mp h]; exact ⟨by omega, hR⟩
      · rintro H5 ⟨us, xs, eD, lv, lx, hok, k5, D5⟩
        refine ⟨D, _, rfl, .inl ⟨SqL.of eD, fun p np => ?_⟩⟩
        exact q _ _ xs ((k4.trans k5).new np) (D5.new np) (TupR.new PgR.mn lv np) ⟨by omega, hok⟩
def spStepOf : Sp := fun vs H Q _ => ∃ (d l : Addr) (k : Nat), vs = [.ref d, .str (nmS k)] ∧ DI d l H ∧ k < 8 ∧ ∀ H' v n, Kp d H H' → DI d l H' → StpR H' v (k, n) → StOk (k, n) → Q v H'
theorem nm_in : ∀ k, k < 8 → inV (V.str (nmS k)) [V.str ("wide" : Str), V.str ("even" : Str), V.str ("keep" : Str)] = decide (k < 3) := by decide +kernel
theorem nm_even : ∀ k, k < 8 → decide (V.str (nmS k) = V.str ("even" : Str)) = decide (k = 1) := by decide +kernel
theorem ok_stepOf (T : Txt K mg) : FnOk P w K mg base CX0 3 T.a_law_step_of T.d_law_step_of ["_law_d", "_law_kind"] spStepOf := by
  have G_law_draw : FnOk P w K mg base CX0 1 T.a_law_draw T.d_law_draw ["_law_d", "_law_many"] spDraw := ok_draw T
  have G_law_pick : FnOk P w K mg base CX0 2 T.a_law_pick T.d_law_pick ["_law_d", "_law_row"] (spPick K) := ok_pick T
  refine T.D_law_step_of.F.ok sc_law_step_of (fun vs H Q E h => ?_) (fun cdv A outer s H vs Q E hr h => ?_)
  · obtain ⟨d, l, k, rfl, _⟩ := h
    rfl
  · obtain ⟨d, l, k, rfl, hD, hk, q⟩ := h
    refine ⟨_, (pss_cons (ps_if (pt_cmpR op_notIn_seq (pv 1) (pe_tup (pa_cons pe_str (pa_cons pe_str (pa_cons pe_str pa_nil)))) (by rfl)) (pss_one (ps_ret (pe_tup (pa_cons (pv 1) pa_nil)))) pss_nil)
      (pss_cons (ps_set (i := 2) sc_law_step_of.nd rfl (.inl rfl) (pe_ifExp (pt_cmpR op_eq (pv 1) pe_str (nomark _)) pe_int pe_int))
      (pss_one (ps_ret (pe_tup (pa_cons (pv 1) (pa_cons (pe_call G_law_pick (hr.mono (by decide)) (by rfl) T.D_law_pick.G T.D_law_pick.F.kp T.D_law_pick.B .nil pass0 (pa_cons (pv 0) (pa_cons (pe_lst (pa_cons (pv 2) (pa_cons (pe_op op_add (pv 2) pe_int) (pa_cons (pe_op op_add (pv 2) pe_int) (pa_cons pe_int (pa_cons (pe_op op_add (pv 2) (pe_call G_law_draw (hr.mono (by decide)) (by rfl) T.D_law_draw.G T.D_law_draw.F.kp T.D_law_draw.B .nil pass0 (pa_cons (pv 0) (pa_cons (pe_op op_sub pe_int (pv 2)) pa_nil)))) pa_nil)))))) pa_nil))) pa_nil))))))), ?_⟩
    refine ⟨_, rfl, by decide, fun M nM => ?_⟩
    have D0 := hD.new (o := .tup [V.str "wide", V.str "even", V.str "keep"]) nM
    have K0 := (Kp.refl d H).new (o := .tup [V.str "wide", V.str "even", V.str "keep"]) nM
    have eM : upd H M (.tup [V.str "wide", V.str "even", V.str "keep"]) M = _ := upd_same
    generalize upd H M (.tup [V.str "wide", V.str "even", V.str "keep"]) = H0 at D0 K0 eM
    refine ⟨M, _, rfl, .inr (SqT.of eM), rfl, by decide, !decide (k < 3), by rw [nm_in k hk]; rfl, ?_⟩
    by_cases c : k < 3
    · rw [decide_eq_true c]
      refine ⟨_, rfl, rfl, _, congrArg V.bl (nm_even k hk), ?_⟩
      by_cases c1 : k = 1
      · rw [decide_eq_true c1]
        refine ⟨_, rfl, _, rfl, _, rfl, _, rfl, _, _, rfl, rfl, _, rfl, _, _, rfl, rfl, _, rfl, _, rfl, _, rfl, _, _, rfl, rfl, d, l, 19, rfl, D0, by decide, fun H2 r k2 D2 a1 a2 => ?_⟩
        obtain ⟨rr, rfl, hrr⟩ := draw_nt (by decide) a1 a2
        refine ⟨_, _, rfl, rfl, big_ok (by show 5 ≤ _; omega), fun L nL => ?_⟩
        refine ⟨d, l, _, _, rfl, D2.new nL, .inl ⟨L, rfl, (D2.nd nL).1, SqL.of upd_same⟩, by show 0 < 5; omega, by show 5 ≤ 1000; omega, fun H3 v k3 D3 hv => ?_⟩
        have k03 := (K0.trans (k2.new (o := _) nL)).trans k3
        obtain ⟨n, rfl, n1, n2⟩ : ∃ n : Nat, v = nV n ∧ 1 ≤ n ∧ n ≤ 1000 := by
          simp only [List.mem_cons, List.not_mem_nil, or_false] at hv
          rcases hv with rfl | rfl | rfl | rfl | rfl
          · exact ⟨2, rfl, by omega, by omega⟩
          · exact ⟨3, rfl, by omega, by omega⟩
          · exact ⟨4, rfl, by omega, by omega⟩
          · exact ⟨20, rfl, by omega, by omega⟩
          · exact ⟨2 + rr, by unfold nV; exact congrArg V.int (by omega), by omega, by omega⟩
        refine ⟨big_ok (by show 2 ≤ _; omega), fun p np => ?_⟩
        exact q _ _ n (k03.new np) (D3.new np) ⟨p, rfl, by rw [upd_same, if_pos c]⟩ ⟨hk, n1, n2⟩
      · rw [decide_eq_false c1]
        refine ⟨_, rfl, _, rfl, _, rfl, _, rfl, _, _, rfl, rfl, _, rfl, _, _, rfl, rfl, _, rfl, _, rfl, _, rfl, _, _, rfl, rfl, d, l, 20, rfl, D0, by decide, fun H2 r k2 D2 a1 a2 => ?_⟩
        obtain ⟨rr, rfl, hrr⟩ := draw_nt (by decide) a1 a2
        refine ⟨_, _, rfl, rfl, big_ok (by show 5 ≤ _; omega), fun L nL => ?_⟩
        refine ⟨d, l, _, _, rfl, D2.new nL, .inl ⟨L, rfl, (D2.nd nL).1, SqL.of upd_same⟩, by show 0 < 5; omega, by show 5 ≤ 1000; omega, fun H3 v k3 D3 hv => ?_⟩
        have k03 := (K0.trans (k2.new (o := _) nL)).trans k3
        obtain ⟨n, rfl, n1, n2⟩ : ∃ n : Nat, v = nV n ∧ 1 ≤ n ∧ n ≤ 1000 := by
          simp only [List.mem_cons, List.not_mem_nil, or_false] at hv
          rcases hv with rfl | rfl | rfl | rfl | rfl
          · exact ⟨1, rfl, by omega, by omega⟩
          · exact ⟨2, rfl, by omega, by omega⟩
          · exact ⟨3, rfl, by omega, by omega⟩
          · exact ⟨20, rfl, by omega, by omega⟩
          · exact ⟨1 + rr, by unfold nV; exact congrArg V.int (by omega), by omega, by omega⟩
        refine ⟨big_ok (by show 2 ≤ _; omega), fun p np => ?_⟩
        exact q _ _ n (k03.new np) (D3.new np) ⟨p, rfl, by rw [upd_same, if_pos c]⟩ ⟨hk, n1, n2⟩
    · rw [decide_eq_false c]
      refine ⟨_, rfl, big_ok (by show 1 ≤ _; omega), fun p np => ?_⟩
      exact q _ _ 1 (K0.new np) (D0.new np) ⟨p, rfl, by rw [upd_same, if_neg c]⟩ ⟨hk, Nat.le_refl 1, by show 1 ≤ 1000; omega⟩
end
end Vf

set_option Elab.async false
set_option linter.all false
set_option maxRecDepth 100000
set_option maxHeartbeats 4000000
namespace Vf
open PySem PySem.Spec PyProof.Rows L2 TL
/-- two values are the same data, at most n - 1 tuples deep -/
def Eqv : Nat → Hp → V → V → Prop
  | 0, _, _, _ => False
  | n + 1, H, v, u => ((∃ z, v = .str z ∧ u = .str z) ∨ (∃ i, v = .int i ∧ u = .int i) ∨ (v = .non ∧ u = .non)) ∨
      ∃ (a b : Addr) (xs ys : List V), v = .ref a ∧ u = .ref b ∧ H a = some (.tup xs) ∧ H b = some (.tup ys) ∧ xs.length = ys.length ∧ xs.length ≤ 100000 ∧ ∀ (i : Nat) x y, xs[i]? = some x → ys[i]? = some y → Eqv n H x y
def spExact (n : Nat) : Sp := fun vs H Q _ => ∃ (v u : V), vs = [v, u] ∧ Eqv n H v u ∧ Q (.bl true) H
theorem eq_self {H : Hp} {Q : VK} {x : V} (q : Q (.bl true) H) : Q (.bl (decide (x = x))) H := by
  rw [decide_eq_true rfl]; exact q
section
variable {P : Program} {w : World} {K : PySem.W.Frag} {mg : Str → Option Value} {base : Heap}
theorem ok_exact (T : Txt K mg) : ∀ n : Nat, FnOk P w K mg base CX0 (n + 1) T.a_law_exact T.d_law_exact ["_law_told", "_law_due_here"] (spExact n)
  | 0 => by
    refine T.D_law_exact.F.ok sc_law_exact (fun vs H Q E h => ?_) (fun cdv A outer s H vs Q E hr h => ?_)
    · obtain ⟨v, u, rfl, _⟩ := h
      rfl
    · obtain ⟨v, u, rfl, hE, q⟩ := h
      exact hE.elim
  | n + 1 => by
    have G_law_exact : FnOk P w K mg base CX0 (n + 1) T.a_law_exact T.d_law_exact ["_law_told", "_law_due_here"] (spExact n) := ok_exact T n
    refine T.D_law_exact.F.ok sc_law_exact (fun vs H Q E h => ?_) (fun cdv A outer s H vs Q E hr h => ?_)
    · obtain ⟨v, u, rfl, _⟩ := h
      rfl
    · obtain ⟨v, u, rfl, hE, q⟩ := h
      refine ⟨_, (pss_cons (ps_if (pt_val (pe_callB call_isi (by rfl) T.n_isinstance (by decide +kernel) (pa_cons (pv 1) (pa_cons (pe_bltn (v := .ty "tuple") (by rfl) T.n_tuple (by decide +kernel) rfl) pa_nil)))) (pss_cons (ps_if (PW.pt (pw_or (pt_not (pt_val (pe_callB call_isi (by rfl) T.n_isinstance (by decide +kernel) (pa_cons (pv 0) (pa_cons (pe_bltn (v := .ty "tuple") (by rfl) T.n_tuple (by decide +kernel) rfl) pa_nil))))) (pw_or1 (pt_cmpR op_ne (pe_callB call_len (by rfl) T.n_len PySem.boot_len (pa_cons (pv 0) pa_nil)) (pe_callB call_len (by rfl) T.n_len PySem.boot_len (pa_cons (pv 1) pa_nil)) (nomark _))))) (pss_one (ps_ret pe_bl)) pss_nil)
      (pss_cons (ps_for PassesOwn.never rfl (pi_range1 (by rfl) T.n_range (pa_cons (pe_callB call_len (by rfl) T.n_len PySem.boot_len (pa_cons (pv 1) pa_nil)) pa_nil)) (pg_name (i := 2) sc_law_exact.nd rfl (.inl rfl)) (pss_one (ps_if (pt_not (pt_val (pe_call G_law_exact hr (by rfl) T.D_law_exact.G T.D_law_exact.F.kp T.D_law_exact.B .nil pass0 (pa_cons (pe_ix ix_seq (pv 0) (pv 2) (fun _ _ => rfl)) (pa_cons (pe_ix ix_seq (pv 1) (pv 2) (fun _ _ => rfl)) pa_nil))))) (pss_one (ps_ret pe_bl)) pss_nil)))
      (pss_one (ps_ret pe_bl)))) pss_nil)
      (pss_cons (ps_if (pt_cmpR op_isN (pv 1) pe_non (nomark _)) (pss_one (ps_ret (pe_cmpR op_isN (pv 0) pe_non (nomark _)))) pss_nil)
      (pss_cons (ps_if (pt_val (pe_callB call_isi (by rfl) T.n_isinstance (by decide +kernel) (pa_cons (pv 1) (pa_cons (pe_bltn (v := .ty "bool") (by rfl) T.n_bool (by decide +kernel) rfl) pa_nil)))) (pss_one (ps_ret (pe_and (pe_callB call_isi (by rfl) T.n_isinstance (by decide +kernel) (pa_cons (pv 0) (pa_cons (pe_bltn (v := .ty "bool") (by rfl) T.n_bool (by decide +kernel) rfl) pa_nil))) (pe_one (pe_cmpR op_eq (pv 0) (pv 1) (nomark _)))))) pss_nil)
      (pss_cons (ps_if (pt_val (pe_callB call_isi (by rfl) T.n_isinstance (by decide +kernel) (pa_cons (pv 1) (pa_cons (pe_bltn (v := .ty "int") (by rfl) T.n_int (by decide +kernel) rfl) pa_nil)))) (pss_one (ps_ret (pe_and (pe_callB call_isi (by rfl) T.n_isinstance (by decide +kernel) (pa_cons (pv 0) (pa_cons (pe_bltn (v := .ty "int") (by rfl) T.n_int (by decide +kernel) rfl) pa_nil))) (pe_and (pe_not (pe_callB call_isi (by rfl) T.n_isinstance (by decide +kernel) (pa_cons (pv 0) (pa_cons (pe_bltn (v := .ty "bool") (by rfl) T.n_bool (by decide +kernel) rfl) pa_nil)))) (pe_one (pe_cmpR op_eq (pv 0) (pv 1) (nomark _))))))) pss_nil)
      (pss_one (ps_ret (pe_and (pe_callB call_isi (by rfl) T.n_isinstance (by decide +kernel) (pa_cons (pv 0) (pa_cons (pe_bltn (v := .ty "str") (by rfl) T.n_str (by decide +kernel) rfl) pa_nil))) (pe_one (pe_cmpR op_eq (pv 0) (pv 1) (nomark _)))))))))), ?_⟩
      rcases hE with (⟨z, rfl, rfl⟩ | ⟨i, rfl, rfl⟩ | ⟨rfl, rfl⟩) | ⟨a, b, xs, ys, rfl, rfl, ha, hb, el, en, hE⟩
      · refine ⟨_, rfl, _, _, .type "str", .type "tuple", false, rfl, .ty _, .base (.str _), kit_ty (by decide +kernel), _, rfl, ?_⟩
        refine ⟨_, rfl, rfl, false, bl_of (decide_eq_false (fun e => by cases e)), ?_⟩
        refine ⟨_, rfl, _, _, .type "str", .type "bool", false, rfl, .ty _, .base (.str _), kit_ty (by decide +kernel), _, rfl, ?_⟩
        refine ⟨_, rfl, _, _, .type "str", .type "int", false, rfl, .ty _, .base (.str _), kit_ty (by decide +kernel), _, rfl, ?_⟩
        exact ⟨_, rfl, _, _, .type "str", .type "str", true, rfl, .ty _, .base (.str _), kit_ty (by decide +kernel), true, rfl, _, rfl, _, rfl, rfl, eq_self q⟩
      · refine ⟨_, rfl, _, _, .type "int", .type "tuple", false, rfl, .ty _, .base (.int _), kit_ty (by decide +kernel), _, rfl, ?_⟩
        refine ⟨_, rfl, rfl, false, bl_of (decide_eq_false (fun e => by cases e)), ?_⟩
        refine ⟨_, rfl, _, _, .type "int", .type "bool", false, rfl, .ty _, .base (.int _), kit_ty (by decide +kernel), _, rfl, ?_⟩
        refine ⟨_, rfl, _, _, .type "int", .type "int", true, rfl, .ty _, .base (.int _), kit_ty (by decide +kernel), _, rfl, ?_⟩
        exact ⟨_, rfl, _, _, .type "int", .type "int", true, rfl, .ty _, .base (.int _), kit_ty (by decide +kernel), true, rfl, _, rfl, _, _, .type "int", .type "bool", false, rfl, .ty _, .base (.int _), kit_ty (by decide +kernel), false, rfl, true, rfl, _, rfl, _, rfl, rfl, eq_self q⟩
      · refine ⟨_, rfl, _, _, .type "NoneType", .type "tuple", false, rfl, .ty _, .base .non, kit_ty (by decide +kernel), _, rfl, ?_⟩
        exact ⟨_, rfl, rfl, true, bl_of (decide_eq_true rfl), _, rfl, rfl, eq_self q⟩
      · refine ⟨_, rfl, _, _, .type "tuple", .type "tuple", true, rfl, .ty _, .base (.tup hb), kit_ty (by decide +kernel), _, rfl, ?_⟩
        refine ⟨_, rfl, _, _, .type "tuple", .type "tuple", true, rfl, .ty _, .base (.tup ha), kit_ty (by decide +kernel), _, rfl, ?_⟩
        refine ⟨_, rfl, _, _, rfl, .inr ⟨_, SqT.of ha, rfl⟩, _, rfl, _, _, rfl, .inr ⟨_, SqT.of hb, rfl⟩, rfl, false, ?_, ?_⟩
        · rw [el, decide_eq_true rfl]; rfl
        refine ⟨_, rfl, _, _, rfl, .inr ⟨_, SqT.of hb, rfl⟩, _, rfl, by omega, by omega, ?_⟩
        refine for_range (lo := 0) (n := ((ys.length : Nat) : Int).toNat) (fun i σ' H' => H' = H ∧ ∃ x2 : Option V, σ' = [some (.ref a), some (.ref b), x2]) ⟨rfl, none, rfl⟩ ?_ ?_
        · rintro i σ' H' hi ⟨rfl, x2, rfl⟩
          have hi2 : i < ys.length := by omega
          have hi1 : i < xs.length := by omega
          have gx : xs[i]? = some xs[i] := List.getElem?_eq_getElem hi1
          have gy : ys[i]? = some ys[i] := List.getElem?_eq_getElem hi2
          have e0 : ((0 : Int) + (i : Int)) = (i : Int) := Int.zero_add _
          refine ⟨_, rfl, _, rfl, .inr (.inl ⟨a, xs, _, _, rfl, rfl, SqT.of ha, at_of e0 gx, ?_⟩)⟩
          refine ⟨_, rfl, _, rfl, .inr (.inl ⟨b, ys, _, _, rfl, rfl, SqT.of hb, at_of e0 gy, ?_⟩)⟩
          exact ⟨_, _, rfl, hE i _ _ gx gy, true, rfl, rfl, _, rfl⟩
        · rintro σ' H' ⟨rfl, x2, rfl⟩
          exact q
end
end Vf

set_option Elab.async false
set_option linter.all false
set_option maxRecDepth 100000
set_option maxHeartbeats 4000000
namespace Vf
open PySem PySem.Spec PyProof.Rows L2 TL
theorem tup_eqv {α : Type} {R : Hp → V → α → Prop} {n : Nat} {H : Hp} {u v : V} {rs : List α} (hu : TupR R H u rs) (hv : TupR R H v rs) (hl : rs.length ≤ 1000) (he : ∀ r ∈ rs, ∀ x y, R H x r → R H y r → Eqv n H x y) : Eqv (n + 1) H u v := by
  obtain ⟨a, us, rfl, ea, lu⟩ := hu
  obtain ⟨b, vs, rfl, eb, lw⟩ := hv
  have l1 := lu.1
  have l2 := lw.1
  refine .inr ⟨a, b, us, vs, rfl, rfl, ea, eb, by omega, by omega, fun i x y hx hy => ?_⟩
  obtain ⟨r, er, hr⟩ := lu.at hx
  obtain ⟨r2, er2, hr2⟩ := lw.at hy
  rw [er] at er2
  have e := Option.some.inj er2
  subst e
  exact he r (List.mem_of_getElem? er) x y hr hr2
theorem lk_eqv {H : Hp} {u v : V} {l : List Pg} (hu : LkR H u l) (hv : LkR H v l) (h1 : l.length ≤ 1000) (h2 : ∀ p ∈ l, p.length ≤ 1000) : Eqv 3 H u v :=
  tup_eqv hu hv h1 fun p hp _ _ hx hy => tup_eqv hx hy (h2 p hp) fun r _ x y hx hy => by
    rw [show x = sV r from hx, show y = sV r from hy]
    exact .inl (.inl ⟨_, rfl, rfl⟩)
theorem pages_len (p : Pg) : (pagesN p).length = p.length := by unfold pagesN; split <;> simp
theorem drawN_len {k n : Nat} {l : List Pg} (hk : k < 8) (ok : LkOk l) : (drawN k n l).length ≤ 1000 ∧ ∀ p ∈ drawN k n l, p.length ≤ 1000 := by
  have l1 := ok.1
  by_cases h2 : k = 2
  · subst h2
    exact ⟨by show (l.take n).length ≤ _; rw [List.length_take]; omega, fun p hp => Nat.le_trans (ok.2 p (List.mem_of_mem_take hp)).1 (by decide)⟩
  by_cases h6 : k = 6
  · subst h6
    refine ⟨by show (belowN l).length ≤ _; unfold belowN; rw [List.length_map, List.length_range]; omega, fun p hp => ?_⟩
    obtain ⟨i, hi, rfl⟩ := List.mem_map.mp (show p ∈ belowN l from hp)
    have hi := List.mem_range.mp hi
    have := (ok.2 _ (getD_mem (d := []) hi)).1
    rw [List.length_map, List.length_range]; omega
  rw [draw_pgK hk h2 h6]
  refine ⟨by rw [List.length_map]; omega, fun p hp => ?_⟩
  obtain ⟨q, hq, rfl⟩ := List.mem_map.mp hp
  have hq := (ok.2 q hq).1
  unfold pgK
  by_cases h4 : k = 4
  · rw [if_pos h4, (b_inv q).all.1]; omega
  rw [if_neg h4]
  by_cases h5 : k = 5
  · rw [if_pos h5, pages_len]; omega
  rw [if_neg h5, List.length_map]; omega
def AkR : Hp → V → (Nat × Nat) × List Pg → Prop := PairR StpR LkR
theorem AkR.mn : Mn AkR := PairR.mn StpR.mn LkR.mn
def AkOk (q : (Nat × Nat) × List Pg) : Prop := StOk q.1 ∧ LkOk q.2
theorem cut_take (us : List V) (n : Nat) : cutV us none (some (n : Int)) = us.take n := by
  unfold cutV
  rw [HT.sIx_none, HT.sIx_nat, List.drop_zero, Nat.sub_zero]
  by_cases c : n ≤ us.length
  · rw [Nat.min_eq_left c]
  · rw [Nat.min_eq_right (by omega), List.take_length, List.take_of_length_le (by omega)]
def kindsV : List V := [V.str ("wide" : Str), V.str ("even" : Str), V.str ("keep" : Str), V.str ("rows" : Str), V.str ("blocks" : Str), V.str ("pages" : Str), V.str ("below" : Str), V.str ("all" : Str)]
theorem in_kinds {v : V} (h : v ∈ kindsV) : ∃ k, k < 8 ∧ v = V.str (nmS k) := by
  unfold kindsV at h
  simp only [List.mem_cons, List.not_mem_nil, or_false] at h
  rcases h with rfl | rfl | rfl | rfl | rfl | rfl | rfl | rfl
  · exact ⟨0, by decide, rfl⟩
  · exact ⟨1, by decide, rfl⟩
  · exact ⟨2, by decide, rfl⟩
  · exact ⟨3, by decide, rfl⟩
  · exact ⟨4, by decide, rfl⟩
  · exact ⟨5, by decide, rfl⟩
  · exact ⟨6, by decide, rfl⟩
  · exact ⟨7, by decide, rfl⟩
section
variable {P : Program} {w : World} {K : PySem.W.Frag} {mg : Str → Option Value} {base : Heap}
def spLaw (K : PySem.W.Frag) : Sp := fun vs H Q _ => ∃ (a : Addr) (ns : List Int), vs = [.ref a] ∧ SqL K H a (ns.map V.int) ∧ ns.length ≤ 63 ∧ ∀ H', Q (.bl true) H'
theorem ok_law (T : Txt K mg) : FnOk P w K mg base CX0 6 T.a_law T.d_law ["_law_script"] (spLaw K) := by
  have G_law_begin : FnOk P w K mg base CX0 1 T.a_law_begin T.d_law_begin ["_law_script"] (spBegin K) := ok_begin T
  have G_law_any_look : FnOk P w K mg base CX0 5 T.a_law_any_look T.d_law_any_look ["_law_d"] spLookA := ok_lookA T
  have G_law_shuffled : FnOk P w K mg base CX0 2 T.a_law_shuffled T.d_law_shuffled ["_law_d", "_law_row"] spShufV := ok_shufV T
  have G_law_step_of : FnOk P w K mg base CX0 3 T.a_law_step_of T.d_law_step_of ["_law_d", "_law_kind"] spStepOf := ok_stepOf T
  have G_draw : FnOk P w K mg base CX0 4 T.a_draw T.d_draw ["step", "look"] spDue := ok_drawS T
  have G_law_due : FnOk P w K mg base CX0 3 T.a_law_due T.d_law_due ["_law_step", "_law_look"] spDue := ok_due T
  have G_law_exact : FnOk P w K mg base CX0 4 T.a_law_exact T.d_law_exact ["_law_told", "_law_due_here"] (spExact 3) := ok_exact T 3
  refine T.D_law.F.ok sc_law (fun vs H Q E h => ?_) (fun cdv A outer s H vs Q E hr h => ?_)
  · obtain ⟨a, ns, rfl, _⟩ := h
    rfl
  · obtain ⟨a, ns, rfl, hS, hl, q⟩ := h
    refine ⟨_, (pss_cons (ps_set (i := 1) sc_law.nd rfl (.inl rfl) (pe_call G_law_begin (hr.mono (by decide)) (by rfl) T.D_law_begin.G T.D_law_begin.F.kp T.D_law_begin.B .nil pass0 (pa_cons (pv 0) pa_nil)))
      (pss_cons (ps_set (i := 2) sc_law.nd rfl (.inl rfl) (pe_lst (pa_cons (pe_call G_law_any_look (hr.mono (by decide)) (by rfl) T.D_law_any_look.G T.D_law_any_look.F.kp T.D_law_any_look.B .nil pass0 (pa_cons (pv 1) pa_nil)) (pa_cons (pe_call G_law_any_look (hr.mono (by decide)) (by rfl) T.D_law_any_look.G T.D_law_any_look.F.kp T.D_law_any_look.B .nil pass0 (pa_cons (pv 1) pa_nil)) pa_nil))))
      (pss_cons (ps_set (i := 3) sc_law.nd rfl (.inl rfl) (pe_lst pa_nil))
      (pss_cons (ps_for PassesOwn.never rfl (pi_list (pe_call G_law_shuffled (hr.mono (by decide)) (by rfl) T.D_law_shuffled.G T.D_law_shuffled.F.kp T.D_law_shuffled.B .nil pass0 (pa_cons (pv 1) (pa_cons (pe_lst (pa_cons pe_str (pa_cons pe_str (pa_cons pe_str (pa_cons pe_str (pa_cons pe_str (pa_cons pe_str (pa_cons pe_str (pa_cons pe_str pa_nil))))))))) pa_nil)))) (pg_name (i := 4) sc_law.nd rfl (.inl rfl)) (pss_one (ps_for PassesOwn.never rfl (pi_list (pv 2)) (pg_name (i := 5) sc_law.nd rfl (.inl rfl)) (pss_one (ps_expr (pe_bm PySem.F.plainAttrs_list PySem.F.slot_list_append PySem.F.type_list_append mt_append (pv 3) (pa_cons (pe_tup (pa_cons (pe_call G_law_step_of (hr.mono (by decide)) (by rfl) T.D_law_step_of.G T.D_law_step_of.F.kp T.D_law_step_of.B .nil pass0 (pa_cons (pv 1) (pa_cons (pv 4) pa_nil))) (pa_cons (pv 5) pa_nil))) pa_nil)))))))
      (pss_cons (ps_for PassesOwn.never rfl (pi_list (pe_op op_cat (pv 3) (pe_slice sl_list (pv 3) po_none (po_some pe_int)))) (pg_tup (by rfl) (pgs_cons (pg_name (i := 6) sc_law.nd rfl (.inl rfl)) (pgs_cons (pg_name (i := 5) sc_law.nd rfl (.inl rfl)) pgs_nil))) (pss_one (ps_if (pt_not (pt_val (pe_call G_law_exact (hr.mono (by decide)) (by rfl) T.D_law_exact.G T.D_law_exact.F.kp T.D_law_exact.B .nil pass0 (pa_cons (pe_call G_draw (hr.mono (by decide)) (by rfl) T.D_draw.G T.D_draw.F.kp T.D_draw.B .nil pass0 (pa_cons (pv 6) (pa_cons (pv 5) pa_nil))) (pa_cons (pe_call G_law_due (hr.mono (by decide)) (by rfl) T.D_law_due.G T.D_law_due.F.kp T.D_law_due.B .nil pass0 (pa_cons (pv 6) (pa_cons (pv 5) pa_nil))) pa_nil))))) (pss_one (ps_ret pe_bl)) pss_nil)))
      (pss_one (ps_ret pe_bl))))))), ?_⟩
    refine ⟨_, rfl, a, ns, rfl, hS, hl, fun H1 d l s1 D1 => ?_⟩
    refine ⟨_, rfl, d, l, rfl, D1, fun H2 v1 lk1 k2 D2 h1 o1 => ⟨_, rfl, d, l, rfl, D2, fun H3 v2 lk2 k3 D3 h2 o2 => ⟨big_ok (by show 2 ≤ _; omega), fun L nL => ?_⟩⟩⟩
    have h1 := LkR.mn.to h1 (kpTup D2 k3)
    have ndL := D3.nd nL
    have eL : upd H3 L (.lst [v1, v2]) L = some (.lst [v1, v2]) := upd_same
    have D4 := D3.new (o := .lst [v1, v2]) nL
    have t4 : TK H3 (upd H3 L (.lst [v1, v2])) := TK.new (TK.refl _) nL
    have lvL : LV (LkR (upd H3 L (.lst [v1, v2]))) [v1, v2] [lk1, lk2] := (LV.nil.snoc (R := LkR _) (LkR.mn.to h1 t4)).snoc (R := LkR _) (LkR.mn.to h2 t4)
    generalize upd H3 L (.lst [v1, v2]) = H4 at eL D4 lvL
    have okL : ∀ x ∈ [lk1, lk2], LkOk x := fun x hx => by
      simp only [List.mem_cons, List.not_mem_nil, or_false] at hx
      rcases hx with rfl | rfl
      · exact o1
      · exact o2
    generalize [lk1, lk2] = lks at lvL okL
    have lvLl := lvL.1
    refine ⟨Nat.zero_le _, fun A nA => ?_⟩
    have ndA := D4.nd nA
    have nAL : L ≠ A := ne_of_none eL nA
    have D5 := D4.new (o := .lst []) nA
    have K5 := (Kp.refl d H4).new (o := .lst []) nA
    have eA5 : upd H4 A (.lst []) A = some (.lst []) := upd_same
    generalize upd H4 A (.lst []) = H5 at D5 K5 eA5
    refine ⟨_, rfl, by decide, fun M nM => ?_⟩
    refine ⟨d, l, M, kindsV, rfl, D5.new nM, upd_same, by decide, fun H6 p us k6 D6 np ep perm => ?_⟩
    have k56 := ((Kp.refl d H5).new (o := .lst kindsV) nM).trans k6
    have eA6 := k56 _ _ ndA.1 eA5
    have K6 := K5.trans k56
    have nAp : A ≠ p := fun z => by
      rw [← z] at np
      rw [upd_ne (ne_of_none eA5 nM), eA5] at np
      cases np
    have ul : us.length = 8 := perm.length_eq
    have ndp := (D5.new (o := .lst kindsV) nM).nd np
    refine ⟨p, rfl, ⟨_, SqL.of ep⟩, ?_⟩
    refine for_it (walk_list (K := K) (a := p) (xs := us)) (fun i σ' H' => ∃ (x4 x5 x6 : Option V) (zs : List V) (ps : List ((Nat × Nat) × List Pg)), σ' = [some (.ref a), some (.ref d), some (.ref L), some (.ref A), x4, x5, x6] ∧ Kp d H4 H' ∧ DI d l H' ∧ H' A = some (.lst zs) ∧ LV (AkR H') zs ps ∧ (∀ q ∈ ps, AkOk q) ∧ ps.length ≤ 2 * i ∧ H' p = some (.lst us))
      ⟨none, none, none, [], [], rfl, K6, D6, eA6, LV.nil, (fun _ h => nomatch h), Nat.zero_le _, ep⟩ ?_ ?_ ?_
    · rintro i σ1 H7 _ ⟨_, _, _, _, _, _, _, _, _, _, _, _, e⟩
      exact SqL.of e
    · rintro i x σ1 H7 H8 hi ⟨x4, x5, x6, zs, ps, rfl, k7, D7, eA7, lz7, ok7, lp7, ep7⟩ ⟨rfl, hx⟩
      obtain ⟨k, hk, rfl⟩ := in_kinds (perm.mem_iff.mp (List.mem_of_getElem? hx))
      refine ⟨_, rfl, L, rfl, ⟨_, SqL.of (k7 _ _ ndL.1 eL)⟩, ?_⟩
      refine for_it (walk_list (K := K) (a := L) (xs := [v1, v2])) (fun j σ' H' => ∃ (x5 : Option V) (zs : List V) (ps : List ((Nat × Nat) × List Pg)), σ' = [some (.ref a), some (.ref d), some (.ref L), some (.ref A), some (.str (nmS k)), x5, x6] ∧ Kp d H4 H' ∧ DI d l H' ∧ H' A = some (.lst zs) ∧ LV (AkR H') zs ps ∧ (∀ q ∈ ps, AkOk q) ∧ ps.length ≤ 2 * i + j ∧ H' p = some (.lst us))
        ⟨x5, zs, ps, rfl, k7, D7, eA7, lz7, ok7, lp7, ep7⟩ ?_ ?_ ?_
      · rintro j σ2 H9 _ ⟨_, _, _, _, k9, _⟩
        exact SqL.of (k9 _ _ ndL.1 eL)
      · rintro j y σ2 H9 H10 hj ⟨x5, zs, ps, rfl, k9, D9, eA9, lz9, ok9, lp9, ep9⟩ ⟨rfl, hy⟩
        obtain ⟨lk, elk, hlk⟩ := lvL.at hy
        have olk := okL lk (List.mem_of_getElem? elk)
        have hlk := LkR.mn.to hlk (kpTup D4 k9)
        have zl := lz9.1
        have hj : j < 2 := hj
        refine ⟨_, rfl, .inl ⟨rfl, _, SqL.of eA9⟩, _, rfl, _, rfl, d, l, k, rfl, D9, hk, fun H11 sv n k11 D11 hst hok => ?_⟩
        refine ⟨_, rfl, big_ok (by show 2 ≤ _; omega), fun t nt => ?_⟩
        have t911 := kpTup D9 k11
        have hlk11 := LkR.mn.to hlk t911
        have tn : TK H11 (upd H11 t (.tup [sv, y])) := TK.new (TK.refl _) nt
        have hak : AkR (upd H11 t (.tup [sv, y])) (.ref t) ((k, n), lk) := ⟨t, sv, y, rfl, upd_same, StpR.mn.to hst tn, LkR.mn.to hlk11 tn⟩
        have lz12 : LV (AkR (upd H11 t (.tup [sv, y]))) zs ps := lz9.mono fun _ _ z => AkR.mn.to z (TK.trans t911 tn)
        have eA11 := k11 _ _ ndA.1 eA9
        have eA12 := (upd_ne (o := .tup [sv, y]) (ne_of_none eA11 nt)).trans eA11
        have ep11 := k11 _ _ ndp.1 ep9
        have ep12 := (upd_ne (o := .tup [sv, y]) (ne_of_none ep11 nt)).trans ep11
        have k12 := (k9.trans k11).new (o := .tup [sv, y]) nt
        have D12 := D11.new (o := .tup [sv, y]) nt
        generalize upd H11 t (.tup [sv, y]) = H12 at hak lz12 eA12 ep12 k12 D12
        refine ⟨A, _, _, rfl, rfl, eA12, szN (by omega), ?_⟩
        refine ⟨_, zs ++ [.ref t], ps ++ [((k, n), lk)], rfl, k12.mut nA, D12.at ndA.1 ndA.2, upd_same, (lz12.snoc hak).mono fun _ _ z => AkR.mn.to z (TK.mut (TK.refl _) eA12), fun q hq => ?_, by rw [List.length_append]; show _ + 1 ≤ _; omega, (upd_ne (Ne.symm nAp)).trans ep12⟩
        rcases List.mem_append.mp hq with h | h
        · exact ok9 q h
        · rw [List.mem_singleton.mp h]; exact ⟨hok, olk⟩
      · rintro σ2 H9 ⟨x5, zs, ps, rfl, k9, D9, eA9, lz9, ok9, lp9, ep9⟩
        exact ⟨_, _, _, zs, ps, rfl, k9, D9, eA9, lz9, ok9, lp9, ep9⟩
    · rintro σ1 H7 ⟨x4, x5, x6, zs, ps, rfl, k7, D7, eA7, lz7, ok7, lp7, ep7⟩
      rw [ul] at lp7
      have zl := lz7.1
      refine ⟨_, rfl, _, rfl, 3, rfl, A, zs, rfl, SqL.of eA7, fun p1 np1 => ?_⟩
      rw [show cutV zs none (some (3 : Int)) = zs.take 3 from cut_take zs 3]
      have eA8 := (upd_ne (o := .lst (zs.take 3)) (ne_of_none eA7 np1)).trans eA7
      have e18 : upd H7 p1 (.lst (zs.take 3)) p1 = _ := upd_same
      have lz8 : LV (AkR (upd H7 p1 (.lst (zs.take 3)))) zs ps := lz7.mono fun _ _ z => AkR.mn.to z (TK.new (TK.refl _) np1)
      generalize upd H7 p1 (.lst (zs.take 3)) = H8 at eA8 e18 lz8
      refine ⟨A, p1, _, _, rfl, rfl, eA8, e18, Nat.le_of_lt (szN (by rw [List.length_take]; omega)), fun p2 np2 => ?_⟩
      have e29 : upd H8 p2 (.lst (zs ++ zs.take 3)) p2 = _ := upd_same
      have lz9 : LV (AkR (upd H8 p2 (.lst (zs ++ zs.take 3)))) (zs ++ zs.take 3) (ps ++ ps.take 3) := (lz8.app2 (lz8.takeN 3)).mono fun _ _ z => AkR.mn.to z (TK.new (TK.refl _) np2)
      have ok9 : ∀ q ∈ ps ++ ps.take 3, AkOk q := fun q hq => by
        rcases List.mem_append.mp hq with h | h
        · exact ok7 q h
        · exact ok7 q (List.mem_of_mem_take h)
      generalize upd H8 p2 (.lst (zs ++ zs.take 3)) = H9 at e29 lz9
      generalize zs ++ zs.take 3 = zs2 at e29 lz9
      generalize ps ++ ps.take 3 = ps2 at lz9 ok9
      refine ⟨p2, rfl, ⟨_, SqL.of e29⟩, ?_⟩
      refine for_it (walk_list (K := K) (a := p2) (xs := zs2)) (fun i σ' H' => ∃ (x4 x5 x6 : Option V), σ' = [some (.ref a), some (.ref d), some (.ref L), some (.ref A), x4, x5, x6] ∧ Same H9 H') ⟨_, _, _, rfl, Same.refl _⟩ ?_ ?_ ?_
      · rintro i σ2 H10 _ ⟨_, _, _, _, k⟩
        exact SqL.of (k _ _ e29)
      · rintro i x σ2 H10 H11 hi ⟨x4, x5, x6, rfl, k10⟩ ⟨rfl, hx⟩
        obtain ⟨⟨st, lk⟩, epr, t, sv, lv, rfl, et, hst, hlk⟩ := lz9.at hx
        have ok := ok9 _ (List.mem_of_getElem? epr)
        have ok1 : StOk st := ok.1
        have ok2 : LkOk lk := ok.2
        have hst : StpR H9 sv st := hst
        have hlk : LkR H9 lv lk := hlk
        have dl := drawN_len (n := st.2) ok1.1 ok2
        refine ⟨t, _, rfl, SqT.of (k10 _ _ et), rfl, _, _, rfl, _, _, rfl, rfl, ?_⟩
        refine ⟨_, rfl, _, rfl, sv, lv, st, lk, rfl, StpR.mn.to hst (TK.same k10), ok1, LkR.mn.to hlk (TK.same k10), ok2, fun H12 u k12 hu => ?_⟩
        have k912 := k10.trans k12
        refine ⟨_, rfl, _, rfl, sv, lv, st, lk, rfl, StpR.mn.to hst (TK.same k912), ok1, LkR.mn.to hlk (TK.same k912), ok2, fun H13 u2 k13 hu2 => ?_⟩
        exact ⟨_, _, rfl, lk_eqv (LkR.mn.to hu (TK.same k13)) hu2 dl.1 dl.2, true, rfl, _, _, _, rfl, k912.trans k13⟩
      · rintro σ2 H10 ⟨x4, x5, x6, rfl, k10⟩
        exact q _
end
theorem all_mk {l : PySem.W.OpenLaw} {w : World} {K : PySem.W.Frag} {h : Heap} {mg : Str → Option Value} {fa : Addr} (X : K.In h) (G : h.Ns mainGlobals mg) (hfa : mg "law" = some (.ref fa))
    {f_draw : Addr} {od_draw an_draw : Option Addr} {sl_draw : Array (Option Value)} {oc_draw kV_draw dc_draw pm_draw cd_draw ct_draw : Value}
    (a_draw : PySem.W.nsIn K mainGlobals "draw" = some (some (.ref f_draw))) (l_draw : K.lookup f_draw = some ⟨oc_draw, od_draw, .func (PySem.W.fnOf "draw" "draw" (defArgs s_draw) (defBody s_draw) (defScope s_draw) .none kV_draw dc_draw pm_draw an_draw cd_draw ct_draw), sl_draw⟩) (c_draw : PySem.W.codeIn K cd_draw "draw" = true) (k_draw : PySem.W.keepIn K (.ref f_draw) = true)
    {f_whole : Addr} {od_whole an_whole : Option Addr} {sl_whole : Array (Option Value)} {oc_whole kV_whole dc_whole pm_whole cd_whole ct_whole : Value}
    (a_whole : PySem.W.nsIn K mainGlobals "_whole" = some (some (.ref f_whole))) (l_whole : K.lookup f_whole = some ⟨oc_whole, od_whole, .func (PySem.W.fnOf "_whole" "_whole" (defArgs s_whole) (defBody s_whole) (defScope s_whole) .none kV_whole dc_whole pm_whole an_whole cd_whole ct_whole), sl_whole⟩) (c_whole : PySem.W.codeIn K cd_whole "_whole" = true) (k_whole : PySem.W.keepIn K (.ref f_whole) = true)
    {f_whole_page : Addr} {od_whole_page an_whole_page : Option Addr} {sl_whole_page : Array (Option Value)} {oc_whole_page kV_whole_page dc_whole_page pm_whole_page cd_whole_page ct_whole_page : Value}
    (a_whole_page : PySem.W.nsIn K mainGlobals "_whole_page" = some (some (.ref f_whole_page))) (l_whole_page : K.lookup f_whole_page = some ⟨oc_whole_page, od_whole_page, .func (PySem.W.fnOf "_whole_page" "_whole_page" (defArgs s_whole_page) (defBody s_whole_page) (defScope s_whole_page) .none kV_whole_page dc_whole_page pm_whole_page an_whole_page cd_whole_page ct_whole_page), sl_whole_page⟩) (c_whole_page : PySem.W.codeIn K cd_whole_page "_whole_page" = true) (k_whole_page : PySem.W.keepIn K (.ref f_whole_page) = true)
    {f_has_cover : Addr} {od_has_cover an_has_cover : Option Addr} {sl_has_cover : Array (Option Value)} {oc_has_cover kV_has_cover dc_has_cover pm_has_cover cd_has_cover ct_has_cover : Value}
    (a_has_cover : PySem.W.nsIn K mainGlobals "_has_cover" = some (some (.ref f_has_cover))) (l_has_cover : K.lookup f_has_cover = some ⟨oc_has_cover, od_has_cover, .func (PySem.W.fnOf "_has_cover" "_has_cover" (defArgs s_has_cover) (defBody s_has_cover) (defScope s_has_cover) .none kV_has_cover dc_has_cover pm_has_cover an_has_cover cd_has_cover ct_has_cover), sl_has_cover⟩) (c_has_cover : PySem.W.codeIn K cd_has_cover "_has_cover" = true) (k_has_cover : PySem.W.keepIn K (.ref f_has_cover) = true)
    {f_wide_row : Addr} {od_wide_row an_wide_row : Option Addr} {sl_wide_row : Array (Option Value)} {oc_wide_row kV_wide_row dc_wide_row pm_wide_row cd_wide_row ct_wide_row : Value}
    (a_wide_row : PySem.W.nsIn K mainGlobals "_wide_row" = some (some (.ref f_wide_row))) (l_wide_row : K.lookup f_wide_row = some ⟨oc_wide_row, od_wide_row, .func (PySem.W.fnOf "_wide_row" "_wide_row" (defArgs s_wide_row) (defBody s_wide_row) (defScope s_wide_row) .none kV_wide_row dc_wide_row pm_wide_row an_wide_row cd_wide_row ct_wide_row), sl_wide_row⟩) (c_wide_row : PySem.W.codeIn K cd_wide_row "_wide_row" = true) (k_wide_row : PySem.W.keepIn K (.ref f_wide_row) = true)
    {f_even_row : Addr} {od_even_row an_even_row : Option Addr} {sl_even_row : Array (Option Value)} {oc_even_row kV_even_row dc_even_row pm_even_row cd_even_row ct_even_row : Value}
    (a_even_row : PySem.W.nsIn K mainGlobals "_even_row" = some (some (.ref f_even_row))) (l_even_row : K.lookup f_even_row = some ⟨oc_even_row, od_even_row, .func (PySem.W.fnOf "_even_row" "_even_row" (defArgs s_even_row) (defBody s_even_row) (defScope s_even_row) .none kV_even_row dc_even_row pm_even_row an_even_row cd_even_row ct_even_row), sl_even_row⟩) (c_even_row : PySem.W.codeIn K cd_even_row "_even_row" = true) (k_even_row : PySem.W.keepIn K (.ref f_even_row) = true)
    {f_blocks_page : Addr} {od_blocks_page an_blocks_page : Option Addr} {sl_blocks_page : Array (Option Value)} {oc_blocks_page kV_blocks_page dc_blocks_page pm_blocks_page cd_blocks_page ct_blocks_page : Value}
    (a_blocks_page : PySem.W.nsIn K mainGlobals "_blocks_page" = some (some (.ref f_blocks_page))) (l_blocks_page : K.lookup f_blocks_page = some ⟨oc_blocks_page, od_blocks_page, .func (PySem.W.fnOf "_blocks_page" "_blocks_page" (defArgs s_blocks_page) (defBody s_blocks_page) (defScope s_blocks_page) .none kV_blocks_page dc_blocks_page pm_blocks_page an_blocks_page cd_blocks_page ct_blocks_page), sl_blocks_page⟩) (c_blocks_page : PySem.W.codeIn K cd_blocks_page "_blocks_page" = true) (k_blocks_page : PySem.W.keepIn K (.ref f_blocks_page) = true)
    {f_block : Addr} {od_block an_block : Option Addr} {sl_block : Array (Option Value)} {oc_block kV_block dc_block pm_block cd_block ct_block : Value}
    (a_block : PySem.W.nsIn K mainGlobals "_block" = some (some (.ref f_block))) (l_block : K.lookup f_block = some ⟨oc_block, od_block, .func (PySem.W.fnOf "_block" "_block" (defArgs s_block) (defBody s_block) (defScope s_block) .none kV_block dc_block pm_block an_block cd_block ct_block), sl_block⟩) (c_block : PySem.W.codeIn K cd_block "_block" = true) (k_block : PySem.W.keepIn K (.ref f_block) = true)
    {f_below : Addr} {od_below an_below : Option Addr} {sl_below : Array (Option Value)} {oc_below kV_below dc_below pm_below cd_below ct_below : Value}
    (a_below : PySem.W.nsIn K mainGlobals "_below" = some (some (.ref f_below))) (l_below : K.lookup f_below = some ⟨oc_below, od_below, .func (PySem.W.fnOf "_below" "_below" (defArgs s_below) (defBody s_below) (defScope s_below) .none kV_below dc_below pm_below an_below cd_below ct_below), sl_below⟩) (c_below : PySem.W.codeIn K cd_below "_below" = true) (k_below : PySem.W.keepIn K (.ref f_below) = true)
    {f_law_begin : Addr} {od_law_begin an_law_begin : Option Addr} {sl_law_begin : Array (Option Value)} {oc_law_begin kV_law_begin dc_law_begin pm_law_begin cd_law_begin ct_law_begin : Value}
    (a_law_begin : PySem.W.nsIn K mainGlobals "_law_begin" = some (some (.ref f_law_begin))) (l_law_begin : K.lookup f_law_begin = some ⟨oc_law_begin, od_law_begin, .func (PySem.W.fnOf "_law_begin" "_law_begin" (defArgs s_law_begin) (defBody s_law_begin) (defScope s_law_begin) .none kV_law_begin dc_law_begin pm_law_begin an_law_begin cd_law_begin ct_law_begin), sl_law_begin⟩) (c_law_begin : PySem.W.codeIn K cd_law_begin "_law_begin" = true) (k_law_begin : PySem.W.keepIn K (.ref f_law_begin) = true)
    {f_law_draw : Addr} {od_law_draw an_law_draw : Option Addr} {sl_law_draw : Array (Option Value)} {oc_law_draw kV_law_draw dc_law_draw pm_law_draw cd_law_draw ct_law_draw : Value}
    (a_law_draw : PySem.W.nsIn K mainGlobals "_law_draw" = some (some (.ref f_law_draw))) (l_law_draw : K.lookup f_law_draw = some ⟨oc_law_draw, od_law_draw, .func (PySem.W.fnOf "_law_draw" "_law_draw" (defArgs s_law_draw) (defBody s_law_draw) (defScope s_law_draw) .none kV_law_draw dc_law_draw pm_law_draw an_law_draw cd_law_draw ct_law_draw), sl_law_draw⟩) (c_law_draw : PySem.W.codeIn K cd_law_draw "_law_draw" = true) (k_law_draw : PySem.W.keepIn K (.ref f_law_draw) = true)
    {f_law_pick : Addr} {od_law_pick an_law_pick : Option Addr} {sl_law_pick : Array (Option Value)} {oc_law_pick kV_law_pick dc_law_pick pm_law_pick cd_law_pick ct_law_pick : Value}
    (a_law_pick : PySem.W.nsIn K mainGlobals "_law_pick" = some (some (.ref f_law_pick))) (l_law_pick : K.lookup f_law_pick = some ⟨oc_law_pick, od_law_pick, .func (PySem.W.fnOf "_law_pick" "_law_pick" (defArgs s_law_pick) (defBody s_law_pick) (defScope s_law_pick) .none kV_law_pick dc_law_pick pm_law_pick an_law_pick cd_law_pick ct_law_pick), sl_law_pick⟩) (c_law_pick : PySem.W.codeIn K cd_law_pick "_law_pick" = true) (k_law_pick : PySem.W.keepIn K (.ref f_law_pick) = true)
    {f_law_rare : Addr} {od_law_rare an_law_rare : Option Addr} {sl_law_rare : Array (Option Value)} {oc_law_rare kV_law_rare dc_law_rare pm_law_rare cd_law_rare ct_law_rare : Value}
    (a_law_rare : PySem.W.nsIn K mainGlobals "_law_rare" = some (some (.ref f_law_rare))) (l_law_rare : K.lookup f_law_rare = some ⟨oc_law_rare, od_law_rare, .func (PySem.W.fnOf "_law_rare" "_law_rare" (defArgs s_law_rare) (defBody s_law_rare) (defScope s_law_rare) .none kV_law_rare dc_law_rare pm_law_rare an_law_rare cd_law_rare ct_law_rare), sl_law_rare⟩) (c_law_rare : PySem.W.codeIn K cd_law_rare "_law_rare" = true) (k_law_rare : PySem.W.keepIn K (.ref f_law_rare) = true)
    {f_law_shuffled : Addr} {od_law_shuffled an_law_shuffled : Option Addr} {sl_law_shuffled : Array (Option Value)} {oc_law_shuffled kV_law_shuffled dc_law_shuffled pm_law_shuffled cd_law_shuffled ct_law_shuffled : Value}
    (a_law_shuffled : PySem.W.nsIn K mainGlobals "_law_shuffled" = some (some (.ref f_law_shuffled))) (l_law_shuffled : K.lookup f_law_shuffled = some ⟨oc_law_shuffled, od_law_shuffled, .func (PySem.W.fnOf "_law_shuffled" "_law_shuffled" (defArgs s_law_shuffled) (defBody s_law_shuffled) (defScope s_law_shuffled) .none kV_law_shuffled dc_law_shuffled pm_law_shuffled an_law_shuffled cd_law_shuffled ct_law_shuffled), sl_law_shuffled⟩) (c_law_shuffled : PySem.W.codeIn K cd_law_shuffled "_law_shuffled" = true) (k_law_shuffled : PySem.W.keepIn K (.ref f_law_shuffled) = true)
    {f_law_exact : Addr} {od_law_exact an_law_exact : Option Addr} {sl_law_exact : Array (Option Value)} {oc_law_exact kV_law_exact dc_law_exact pm_law_exact cd_law_exact ct_law_exact : Value}
    (a_law_exact : PySem.W.nsIn K mainGlobals "_law_exact" = some (some (.ref f_law_exact))) (l_law_exact : K.lookup f_law_exact = some ⟨oc_law_exact, od_law_exact, .func (PySem.W.fnOf "_law_exact" "_law_exact" (defArgs s_law_exact) (defBody s_law_exact) (defScope s_law_exact) .none kV_law_exact dc_law_exact pm_law_exact an_law_exact cd_law_exact ct_law_exact), sl_law_exact⟩) (c_law_exact : PySem.W.codeIn K cd_law_exact "_law_exact" = true) (k_law_exact : PySem.W.keepIn K (.ref f_law_exact) = true)
    {f_law_any_signs : Addr} {od_law_any_signs an_law_any_signs : Option Addr} {sl_law_any_signs : Array (Option Value)} {oc_law_any_signs kV_law_any_signs dc_law_any_signs pm_law_any_signs cd_law_any_signs ct_law_any_signs : Value}
    (a_law_any_signs : PySem.W.nsIn K mainGlobals "_law_any_signs" = some (some (.ref f_law_any_signs))) (l_law_any_signs : K.lookup f_law_any_signs = some ⟨oc_law_any_signs, od_law_any_signs, .func (PySem.W.fnOf "_law_any_signs" "_law_any_signs" (defArgs s_law_any_signs) (defBody s_law_any_signs) (defScope s_law_any_signs) .none kV_law_any_signs dc_law_any_signs pm_law_any_signs an_law_any_signs cd_law_any_signs ct_law_any_signs), sl_law_any_signs⟩) (c_law_any_signs : PySem.W.codeIn K cd_law_any_signs "_law_any_signs" = true) (k_law_any_signs : PySem.W.keepIn K (.ref f_law_any_signs) = true)
    {f_law_any_row : Addr} {od_law_any_row an_law_any_row : Option Addr} {sl_law_any_row : Array (Option Value)} {oc_law_any_row kV_law_any_row dc_law_any_row pm_law_any_row cd_law_any_row ct_law_any_row : Value}
    (a_law_any_row : PySem.W.nsIn K mainGlobals "_law_any_row" = some (some (.ref f_law_any_row))) (l_law_any_row : K.lookup f_law_any_row = some ⟨oc_law_any_row, od_law_any_row, .func (PySem.W.fnOf "_law_any_row" "_law_any_row" (defArgs s_law_any_row) (defBody s_law_any_row) (defScope s_law_any_row) .none kV_law_any_row dc_law_any_row pm_law_any_row an_law_any_row cd_law_any_row ct_law_any_row), sl_law_any_row⟩) (c_law_any_row : PySem.W.codeIn K cd_law_any_row "_law_any_row" = true) (k_law_any_row : PySem.W.keepIn K (.ref f_law_any_row) = true)
    {f_law_any_look : Addr} {od_law_any_look an_law_any_look : Option Addr} {sl_law_any_look : Array (Option Value)} {oc_law_any_look kV_law_any_look dc_law_any_look pm_law_any_look cd_law_any_look ct_law_any_look : Value}
    (a_law_any_look : PySem.W.nsIn K mainGlobals "_law_any_look" = some (some (.ref f_law_any_look))) (l_law_any_look : K.lookup f_law_any_look = some ⟨oc_law_any_look, od_law_any_look, .func (PySem.W.fnOf "_law_any_look" "_law_any_look" (defArgs s_law_any_look) (defBody s_law_any_look) (defScope s_law_any_look) .none kV_law_any_look dc_law_any_look pm_law_any_look an_law_any_look cd_law_any_look ct_law_any_look), sl_law_any_look⟩) (c_law_any_look : PySem.W.codeIn K cd_law_any_look "_law_any_look" = true) (k_law_any_look : PySem.W.keepIn K (.ref f_law_any_look) = true)
    {f_law_step_of : Addr} {od_law_step_of an_law_step_of : Option Addr} {sl_law_step_of : Array (Option Value)} {oc_law_step_of kV_law_step_of dc_law_step_of pm_law_step_of cd_law_step_of ct_law_step_of : Value}
    (a_law_step_of : PySem.W.nsIn K mainGlobals "_law_step_of" = some (some (.ref f_law_step_of))) (l_law_step_of : K.lookup f_law_step_of = some ⟨oc_law_step_of, od_law_step_of, .func (PySem.W.fnOf "_law_step_of" "_law_step_of" (defArgs s_law_step_of) (defBody s_law_step_of) (defScope s_law_step_of) .none kV_law_step_of dc_law_step_of pm_law_step_of an_law_step_of cd_law_step_of ct_law_step_of), sl_law_step_of⟩) (c_law_step_of : PySem.W.codeIn K cd_law_step_of "_law_step_of" = true) (k_law_step_of : PySem.W.keepIn K (.ref f_law_step_of) = true)
    {f_law_wide_due : Addr} {od_law_wide_due an_law_wide_due : Option Addr} {sl_law_wide_due : Array (Option Value)} {oc_law_wide_due kV_law_wide_due dc_law_wide_due pm_law_wide_due cd_law_wide_due ct_law_wide_due : Value}
    (a_law_wide_due : PySem.W.nsIn K mainGlobals "_law_wide_due" = some (some (.ref f_law_wide_due))) (l_law_wide_due : K.lookup f_law_wide_due = some ⟨oc_law_wide_due, od_law_wide_due, .func (PySem.W.fnOf "_law_wide_due" "_law_wide_due" (defArgs s_law_wide_due) (defBody s_law_wide_due) (defScope s_law_wide_due) .none kV_law_wide_due dc_law_wide_due pm_law_wide_due an_law_wide_due cd_law_wide_due ct_law_wide_due), sl_law_wide_due⟩) (c_law_wide_due : PySem.W.codeIn K cd_law_wide_due "_law_wide_due" = true) (k_law_wide_due : PySem.W.keepIn K (.ref f_law_wide_due) = true)
    {f_law_even_due : Addr} {od_law_even_due an_law_even_due : Option Addr} {sl_law_even_due : Array (Option Value)} {oc_law_even_due kV_law_even_due dc_law_even_due pm_law_even_due cd_law_even_due ct_law_even_due : Value}
    (a_law_even_due : PySem.W.nsIn K mainGlobals "_law_even_due" = some (some (.ref f_law_even_due))) (l_law_even_due : K.lookup f_law_even_due = some ⟨oc_law_even_due, od_law_even_due, .func (PySem.W.fnOf "_law_even_due" "_law_even_due" (defArgs s_law_even_due) (defBody s_law_even_due) (defScope s_law_even_due) .none kV_law_even_due dc_law_even_due pm_law_even_due an_law_even_due cd_law_even_due ct_law_even_due), sl_law_even_due⟩) (c_law_even_due : PySem.W.codeIn K cd_law_even_due "_law_even_due" = true) (k_law_even_due : PySem.W.keepIn K (.ref f_law_even_due) = true)
    {f_law_row_due : Addr} {od_law_row_due an_law_row_due : Option Addr} {sl_law_row_due : Array (Option Value)} {oc_law_row_due kV_law_row_due dc_law_row_due pm_law_row_due cd_law_row_due ct_law_row_due : Value}
    (a_law_row_due : PySem.W.nsIn K mainGlobals "_law_row_due" = some (some (.ref f_law_row_due))) (l_law_row_due : K.lookup f_law_row_due = some ⟨oc_law_row_due, od_law_row_due, .func (PySem.W.fnOf "_law_row_due" "_law_row_due" (defArgs s_law_row_due) (defBody s_law_row_due) (defScope s_law_row_due) .none kV_law_row_due dc_law_row_due pm_law_row_due an_law_row_due cd_law_row_due ct_law_row_due), sl_law_row_due⟩) (c_law_row_due : PySem.W.codeIn K cd_law_row_due "_law_row_due" = true) (k_law_row_due : PySem.W.keepIn K (.ref f_law_row_due) = true)
    {f_law_blocks_due : Addr} {od_law_blocks_due an_law_blocks_due : Option Addr} {sl_law_blocks_due : Array (Option Value)} {oc_law_blocks_due kV_law_blocks_due dc_law_blocks_due pm_law_blocks_due cd_law_blocks_due ct_law_blocks_due : Value}
    (a_law_blocks_due : PySem.W.nsIn K mainGlobals "_law_blocks_due" = some (some (.ref f_law_blocks_due))) (l_law_blocks_due : K.lookup f_law_blocks_due = some ⟨oc_law_blocks_due, od_law_blocks_due, .func (PySem.W.fnOf "_law_blocks_due" "_law_blocks_due" (defArgs s_law_blocks_due) (defBody s_law_blocks_due) (defScope s_law_blocks_due) .none kV_law_blocks_due dc_law_blocks_due pm_law_blocks_due an_law_blocks_due cd_law_blocks_due ct_law_blocks_due), sl_law_blocks_due⟩) (c_law_blocks_due : PySem.W.codeIn K cd_law_blocks_due "_law_blocks_due" = true) (k_law_blocks_due : PySem.W.keepIn K (.ref f_law_blocks_due) = true)
    {f_law_below_due : Addr} {od_law_below_due an_law_below_due : Option Addr} {sl_law_below_due : Array (Option Value)} {oc_law_below_due kV_law_below_due dc_law_below_due pm_law_below_due cd_law_below_due ct_law_below_due : Value}
    (a_law_below_due : PySem.W.nsIn K mainGlobals "_law_below_due" = some (some (.ref f_law_below_due))) (l_law_below_due : K.lookup f_law_below_due = some ⟨oc_law_below_due, od_law_below_due, .func (PySem.W.fnOf "_law_below_due" "_law_below_due" (defArgs s_law_below_due) (defBody s_law_below_due) (defScope s_law_below_due) .none kV_law_below_due dc_law_below_due pm_law_below_due an_law_below_due cd_law_below_due ct_law_below_due), sl_law_below_due⟩) (c_law_below_due : PySem.W.codeIn K cd_law_below_due "_law_below_due" = true) (k_law_below_due : PySem.W.keepIn K (.ref f_law_below_due) = true)
    {f_law_due : Addr} {od_law_due an_law_due : Option Addr} {sl_law_due : Array (Option Value)} {oc_law_due kV_law_due dc_law_due pm_law_due cd_law_due ct_law_due : Value}
    (a_law_due : PySem.W.nsIn K mainGlobals "_law_due" = some (some (.ref f_law_due))) (l_law_due : K.lookup f_law_due = some ⟨oc_law_due, od_law_due, .func (PySem.W.fnOf "_law_due" "_law_due" (defArgs s_law_due) (defBody s_law_due) (defScope s_law_due) .none kV_law_due dc_law_due pm_law_due an_law_due cd_law_due ct_law_due), sl_law_due⟩) (c_law_due : PySem.W.codeIn K cd_law_due "_law_due" = true) (k_law_due : PySem.W.keepIn K (.ref f_law_due) = true)
    {f_law : Addr} {od_law an_law : Option Addr} {sl_law : Array (Option Value)} {oc_law kV_law dc_law pm_law cd_law ct_law : Value}
    (a_law : PySem.W.nsIn K mainGlobals "law" = some (some (.ref f_law))) (l_law : K.lookup f_law = some ⟨oc_law, od_law, .func (PySem.W.fnOf "law" "law" (defArgs s_law) (defBody s_law) (defScope s_law) .none kV_law dc_law pm_law an_law cd_law ct_law), sl_law⟩) (c_law : PySem.W.codeIn K cd_law "law" = true) (k_law : PySem.W.keepIn K (.ref f_law) = true)
    {t_COVER : Tok} (m_COVER : PySem.W.nsIn K mainGlobals "COVER" = some (some (.str "#" t_COVER)))
    {t_BLANK : Tok} (m_BLANK : PySem.W.nsIn K mainGlobals "BLANK" = some (some (.str " " t_BLANK)))
    (n_abs : PySem.W.nsIn K mainGlobals "abs" = some none)
    (n_any : PySem.W.nsIn K mainGlobals "any" = some none)
    (n_bool : PySem.W.nsIn K mainGlobals "bool" = some none)
    (n_enumerate : PySem.W.nsIn K mainGlobals "enumerate" = some none)
    (n_int : PySem.W.nsIn K mainGlobals "int" = some none)
    (n_isinstance : PySem.W.nsIn K mainGlobals "isinstance" = some none)
    (n_len : PySem.W.nsIn K mainGlobals "len" = some none)
    (n_list : PySem.W.nsIn K mainGlobals "list" = some none)
    (n_max : PySem.W.nsIn K mainGlobals "max" = some none)
    (n_min : PySem.W.nsIn K mainGlobals "min" = some none)
    (n_range : PySem.W.nsIn K mainGlobals "range" = some none)
    (n_str : PySem.W.nsIn K mainGlobals "str" = some none)
    (n_tuple : PySem.W.nsIn K mainGlobals "tuple" = some none)
    : ∃ fd : FuncData, (∀ (s : Shared) (v : Value), BindsTo s fd ⟨[v], []⟩ [("_law_script", v)]) ∧ ∀ base : Heap, K.In base → base.Ns mainGlobals mg → FnOk l.prog w K mg base CX0 6 fa fd ["_law_script"] (spLaw K) := by
  have e := hfa.symm.trans (PySem.W.mg_of X G a_law)
  cases e
  have F_draw := fun_mk (st := s_draw) l_draw c_draw k_draw
  have b_draw := F_draw.binds (ps := ["step", "look"]) fun _ _ _ _ _ _ us hl => match us, hl with | [_, _], _ => rfl
  have F_whole := fun_mk (st := s_whole) l_whole c_whole k_whole
  have b_whole := F_whole.binds (ps := ["row"]) fun _ _ _ _ _ _ us hl => match us, hl with | [_], _ => rfl
  have F_whole_page := fun_mk (st := s_whole_page) l_whole_page c_whole_page k_whole_page
  have b_whole_page := F_whole_page.binds (ps := ["page"]) fun _ _ _ _ _ _ us hl => match us, hl with | [_], _ => rfl
  have F_has_cover := fun_mk (st := s_has_cover) l_has_cover c_has_cover k_has_cover
  have b_has_cover := F_has_cover.binds (ps := ["page"]) fun _ _ _ _ _ _ us hl => match us, hl with | [_], _ => rfl
  have F_wide_row := fun_mk (st := s_wide_row) l_wide_row c_wide_row k_wide_row
  have b_wide_row := F_wide_row.binds (ps := ["row", "distance"]) fun _ _ _ _ _ _ us hl => match us, hl with | [_, _], _ => rfl
  have F_even_row := fun_mk (st := s_even_row) l_even_row c_even_row k_even_row
  have b_even_row := F_even_row.binds (ps := ["row", "measure"]) fun _ _ _ _ _ _ us hl => match us, hl with | [_, _], _ => rfl
  have F_blocks_page := fun_mk (st := s_blocks_page) l_blocks_page c_blocks_page k_blocks_page
  have b_blocks_page := F_blocks_page.binds (ps := ["page"]) fun _ _ _ _ _ _ us hl => match us, hl with | [_], _ => rfl
  have F_block := fun_mk (st := s_block) l_block c_block k_block
  have b_block := F_block.binds (ps := ["rows"]) fun _ _ _ _ _ _ us hl => match us, hl with | [_], _ => rfl
  have F_below := fun_mk (st := s_below) l_below c_below k_below
  have b_below := F_below.binds (ps := ["look"]) fun _ _ _ _ _ _ us hl => match us, hl with | [_], _ => rfl
  have F_law_begin := fun_mk (st := s_law_begin) l_law_begin c_law_begin k_law_begin
  have b_law_begin := F_law_begin.binds (ps := ["_law_script"]) fun _ _ _ _ _ _ us hl => match us, hl with | [_], _ => rfl
  have F_law_draw := fun_mk (st := s_law_draw) l_law_draw c_law_draw k_law_draw
  have b_law_draw := F_law_draw.binds (ps := ["_law_d", "_law_many"]) fun _ _ _ _ _ _ us hl => match us, hl with | [_, _], _ => rfl
  have F_law_pick := fun_mk (st := s_law_pick) l_law_pick c_law_pick k_law_pick
  have b_law_pick := F_law_pick.binds (ps := ["_law_d", "_law_row"]) fun _ _ _ _ _ _ us hl => match us, hl with | [_, _], _ => rfl
  have F_law_rare := fun_mk (st := s_law_rare) l_law_rare c_law_rare k_law_rare
  have b_law_rare := F_law_rare.binds (ps := ["_law_d", "_law_many"]) fun _ _ _ _ _ _ us hl => match us, hl with | [_, _], _ => rfl
  have F_law_shuffled := fun_mk (st := s_law_shuffled) l_law_shuffled c_law_shuffled k_law_shuffled
  have b_law_shuffled := F_law_shuffled.binds (ps := ["_law_d", "_law_row"]) fun _ _ _ _ _ _ us hl => match us, hl with | [_, _], _ => rfl
  have F_law_exact := fun_mk (st := s_law_exact) l_law_exact c_law_exact k_law_exact
  have b_law_exact := F_law_exact.binds (ps := ["_law_told", "_law_due_here"]) fun _ _ _ _ _ _ us hl => match us, hl with | [_, _], _ => rfl
  have F_law_any_signs := fun_mk (st := s_law_any_signs) l_law_any_signs c_law_any_signs k_law_any_signs
  have b_law_any_signs := F_law_any_signs.binds (ps := ["_law_d", "_law_wide"]) fun _ _ _ _ _ _ us hl => match us, hl with | [_, _], _ => rfl
  have F_law_any_row := fun_mk (st := s_law_any_row) l_law_any_row c_law_any_row k_law_any_row
  have b_law_any_row := F_law_any_row.binds (ps := ["_law_d", "_law_wide"]) fun _ _ _ _ _ _ us hl => match us, hl with | [_, _], _ => rfl
  have F_law_any_look := fun_mk (st := s_law_any_look) l_law_any_look c_law_any_look k_law_any_look
  have b_law_any_look := F_law_any_look.binds (ps := ["_law_d"]) fun _ _ _ _ _ _ us hl => match us, hl with | [_], _ => rfl
  have F_law_step_of := fun_mk (st := s_law_step_of) l_law_step_of c_law_step_of k_law_step_of
  have b_law_step_of := F_law_step_of.binds (ps := ["_law_d", "_law_kind"]) fun _ _ _ _ _ _ us hl => match us, hl with | [_, _], _ => rfl
  have F_law_wide_due := fun_mk (st := s_law_wide_due) l_law_wide_due c_law_wide_due k_law_wide_due
  have b_law_wide_due := F_law_wide_due.binds (ps := ["_law_row", "_law_n"]) fun _ _ _ _ _ _ us hl => match us, hl with | [_, _], _ => rfl
  have F_law_even_due := fun_mk (st := s_law_even_due) l_law_even_due c_law_even_due k_law_even_due
  have b_law_even_due := F_law_even_due.binds (ps := ["_law_row", "_law_n"]) fun _ _ _ _ _ _ us hl => match us, hl with | [_, _], _ => rfl
  have F_law_row_due := fun_mk (st := s_law_row_due) l_law_row_due c_law_row_due k_law_row_due
  have b_law_row_due := F_law_row_due.binds (ps := ["_law_step", "_law_row"]) fun _ _ _ _ _ _ us hl => match us, hl with | [_, _], _ => rfl
  have F_law_blocks_due := fun_mk (st := s_law_blocks_due) l_law_blocks_due c_law_blocks_due k_law_blocks_due
  have b_law_blocks_due := F_law_blocks_due.binds (ps := ["_law_page"]) fun _ _ _ _ _ _ us hl => match us, hl with | [_], _ => rfl
  have F_law_below_due := fun_mk (st := s_law_below_due) l_law_below_due c_law_below_due k_law_below_due
  have b_law_below_due := F_law_below_due.binds (ps := ["_law_look"]) fun _ _ _ _ _ _ us hl => match us, hl with | [_], _ => rfl
  have F_law_due := fun_mk (st := s_law_due) l_law_due c_law_due k_law_due
  have b_law_due := F_law_due.binds (ps := ["_law_step", "_law_look"]) fun _ _ _ _ _ _ us hl => match us, hl with | [_, _], _ => rfl
  have F_law := fun_mk (st := s_law) l_law c_law k_law
  have b_law := F_law.binds (ps := ["_law_script"]) fun _ _ _ _ _ _ us hl => match us, hl with | [_], _ => rfl
  exact ⟨PySem.W.fnOf "law" "law" (defArgs s_law) (defBody s_law) (defScope s_law) .none kV_law dc_law pm_law an_law cd_law ct_law, fun s v => .of_eq rfl, fun base _ _ => ok_law (T := {
    a_draw := _,
    d_draw := _,
    D_draw := ⟨F_draw, PySem.W.mg_of X G a_draw, b_draw, ⟨_, _, _, _, _, _, rfl⟩⟩,
    a_whole := _,
    d_whole := _,
    D_whole := ⟨F_whole, PySem.W.mg_of X G a_whole, b_whole, ⟨_, _, _, _, _, _, rfl⟩⟩,
    a_whole_page := _,
    d_whole_page := _,
    D_whole_page := ⟨F_whole_page, PySem.W.mg_of X G a_whole_page, b_whole_page, ⟨_, _, _, _, _, _, rfl⟩⟩,
    a_has_cover := _,
    d_has_cover := _,
    D_has_cover := ⟨F_has_cover, PySem.W.mg_of X G a_has_cover, b_has_cover, ⟨_, _, _, _, _, _, rfl⟩⟩,
    a_wide_row := _,
    d_wide_row := _,
    D_wide_row := ⟨F_wide_row, PySem.W.mg_of X G a_wide_row, b_wide_row, ⟨_, _, _, _, _, _, rfl⟩⟩,
    a_even_row := _,
    d_even_row := _,
    D_even_row := ⟨F_even_row, PySem.W.mg_of X G a_even_row, b_even_row, ⟨_, _, _, _, _, _, rfl⟩⟩,
    a_blocks_page := _,
    d_blocks_page := _,
    D_blocks_page := ⟨F_blocks_page, PySem.W.mg_of X G a_blocks_page, b_blocks_page, ⟨_, _, _, _, _, _, rfl⟩⟩,
    a_block := _,
    d_block := _,
    D_block := ⟨F_block, PySem.W.mg_of X G a_block, b_block, ⟨_, _, _, _, _, _, rfl⟩⟩,
    a_below := _,
    d_below := _,
    D_below := ⟨F_below, PySem.W.mg_of X G a_below, b_below, ⟨_, _, _, _, _, _, rfl⟩⟩,
    a_law_begin := _,
    d_law_begin := _,
    D_law_begin := ⟨F_law_begin, PySem.W.mg_of X G a_law_begin, b_law_begin, ⟨_, _, _, _, _, _, rfl⟩⟩,
    a_law_draw := _,
    d_law_draw := _,
    D_law_draw := ⟨F_law_draw, PySem.W.mg_of X G a_law_draw, b_law_draw, ⟨_, _, _, _, _, _, rfl⟩⟩,
    a_law_pick := _,
    d_law_pick := _,
    D_law_pick := ⟨F_law_pick, PySem.W.mg_of X G a_law_pick, b_law_pick, ⟨_, _, _, _, _, _, rfl⟩⟩,
    a_law_rare := _,
    d_law_rare := _,
    D_law_rare := ⟨F_law_rare, PySem.W.mg_of X G a_law_rare, b_law_rare, ⟨_, _, _, _, _, _, rfl⟩⟩,
    a_law_shuffled := _,
    d_law_shuffled := _,
    D_law_shuffled := ⟨F_law_shuffled, PySem.W.mg_of X G a_law_shuffled, b_law_shuffled, ⟨_, _, _, _, _, _, rfl⟩⟩,
    a_law_exact := _,
    d_law_exact := _,
    D_law_exact := ⟨F_law_exact, PySem.W.mg_of X G a_law_exact, b_law_exact, ⟨_, _, _, _, _, _, rfl⟩⟩,
    a_law_any_signs := _,
    d_law_any_signs := _,
    D_law_any_signs := ⟨F_law_any_signs, PySem.W.mg_of X G a_law_any_signs, b_law_any_signs, ⟨_, _, _, _, _, _, rfl⟩⟩,
    a_law_any_row := _,
    d_law_any_row := _,
    D_law_any_row := ⟨F_law_any_row, PySem.W.mg_of X G a_law_any_row, b_law_any_row, ⟨_, _, _, _, _, _, rfl⟩⟩,
    a_law_any_look := _,
    d_law_any_look := _,
    D_law_any_look := ⟨F_law_any_look, PySem.W.mg_of X G a_law_any_look, b_law_any_look, ⟨_, _, _, _, _, _, rfl⟩⟩,
    a_law_step_of := _,
    d_law_step_of := _,
    D_law_step_of := ⟨F_law_step_of, PySem.W.mg_of X G a_law_step_of, b_law_step_of, ⟨_, _, _, _, _, _, rfl⟩⟩,
    a_law_wide_due := _,
    d_law_wide_due := _,
    D_law_wide_due := ⟨F_law_wide_due, PySem.W.mg_of X G a_law_wide_due, b_law_wide_due, ⟨_, _, _, _, _, _, rfl⟩⟩,
    a_law_even_due := _,
    d_law_even_due := _,
    D_law_even_due := ⟨F_law_even_due, PySem.W.mg_of X G a_law_even_due, b_law_even_due, ⟨_, _, _, _, _, _, rfl⟩⟩,
    a_law_row_due := _,
    d_law_row_due := _,
    D_law_row_due := ⟨F_law_row_due, PySem.W.mg_of X G a_law_row_due, b_law_row_due, ⟨_, _, _, _, _, _, rfl⟩⟩,
    a_law_blocks_due := _,
    d_law_blocks_due := _,
    D_law_blocks_due := ⟨F_law_blocks_due, PySem.W.mg_of X G a_law_blocks_due, b_law_blocks_due, ⟨_, _, _, _, _, _, rfl⟩⟩,
    a_law_below_due := _,
    d_law_below_due := _,
    D_law_below_due := ⟨F_law_below_due, PySem.W.mg_of X G a_law_below_due, b_law_below_due, ⟨_, _, _, _, _, _, rfl⟩⟩,
    a_law_due := _,
    d_law_due := _,
    D_law_due := ⟨F_law_due, PySem.W.mg_of X G a_law_due, b_law_due, ⟨_, _, _, _, _, _, rfl⟩⟩,
    a_law := _,
    d_law := _,
    D_law := ⟨F_law, PySem.W.mg_of X G a_law, b_law, ⟨_, _, _, _, _, _, rfl⟩⟩,
    t_COVER := _,
    m_COVER := PySem.W.mg_of X G m_COVER,
    t_BLANK := _,
    m_BLANK := PySem.W.mg_of X G m_BLANK,
    n_abs := PySem.W.mg_none_of X G n_abs,
    n_any := PySem.W.mg_none_of X G n_any,
    n_bool := PySem.W.mg_none_of X G n_bool,
    n_enumerate := PySem.W.mg_none_of X G n_enumerate,
    n_int := PySem.W.mg_none_of X G n_int,
    n_isinstance := PySem.W.mg_none_of X G n_isinstance,
    n_len := PySem.W.mg_none_of X G n_len,
    n_list := PySem.W.mg_none_of X G n_list,
    n_max := PySem.W.mg_none_of X G n_max,
    n_min := PySem.W.mg_none_of X G n_min,
    n_range := PySem.W.mg_none_of X G n_range,
    n_str := PySem.W.mg_none_of X G n_str,
    n_tuple := PySem.W.mg_none_of X G n_tuple })⟩
end Vf
open PySem PySem.W PyProof.Rows
set_option maxHeartbeats 0 in
theorem PySem.Challenge.cw_hushedpages_k62_curtain_steps_holds : PySem.Challenge.rw_hushedpages_k62_curtain_steps.Holds := by
  w_on; o_law; k_head; (case hw => w_witness2)
  k_fill
  refine L2.walk_of (l := PySem.Challenge.rw_hushedpages_k62_curtain_steps) (n := 63) (k := 6) (x := "_law_script") (CX := fun _ => L2.CX0) (sp := fun w => Vf.spLaw _) rfl (by decide) rfl ⟨rfl, by decide, by decide⟩ (fun w h Y => PySem.W.kIn_of Y) ?F (fun _ _ a ns hl _ hS => ⟨a, ns, rfl, hS, hl, fun _ => rfl⟩) (fun _ _ _ _ _ h => h)
  case F =>
    intro w mg fa h KX G hmg
    refine' Vf.all_mk KX G hmg ?a_draw ?l_draw ?c_draw ?k_draw ?a_whole ?l_whole ?c_whole ?k_whole ?a_whole_page ?l_whole_page ?c_whole_page ?k_whole_page ?a_has_cover ?l_has_cover ?c_has_cover ?k_has_cover ?a_wide_row ?l_wide_row ?c_wide_row ?k_wide_row ?a_even_row ?l_even_row ?c_even_row ?k_even_row ?a_blocks_page ?l_blocks_page ?c_blocks_page ?k_blocks_page ?a_block ?l_block ?c_block ?k_block ?a_below ?l_below ?c_below ?k_below ?a_law_begin ?l_law_begin ?c_law_begin ?k_law_begin ?a_law_draw ?l_law_draw ?c_law_draw ?k_law_draw ?a_law_pick ?l_law_pick ?c_law_pick ?k_law_pick ?a_law_rare ?l_law_rare ?c_law_rare ?k_law_rare ?a_law_shuffled ?l_law_shuffled ?c_law_shuffled ?k_law_shuffled ?a_law_exact ?l_law_exact ?c_law_exact ?k_law_exact ?a_law_any_signs ?l_law_any_signs ?c_law_any_signs ?k_law_any_signs ?a_law_any_row ?l_law_any_row ?c_law_any_row ?k_law_any_row ?a_law_any_look ?l_law_any_look ?c_law_any_look ?k_law_any_look ?a_law_step_of ?l_law_step_of ?c_law_step_of ?k_law_step_of ?a_law_wide_due ?l_law_wide_due ?c_law_wide_due ?k_law_wide_due ?a_law_even_due ?l_law_even_due ?c_law_even_due ?k_law_even_due ?a_law_row_due ?l_law_row_due ?c_law_row_due ?k_law_row_due ?a_law_blocks_due ?l_law_blocks_due ?c_law_blocks_due ?k_law_blocks_due ?a_law_below_due ?l_law_below_due ?c_law_below_due ?k_law_below_due ?a_law_due ?l_law_due ?c_law_due ?k_law_due ?a_law ?l_law ?c_law ?k_law ?m_COVER ?m_BLANK ?n_abs ?n_any ?n_bool ?n_enumerate ?n_int ?n_isinstance ?n_len ?n_list ?n_max ?n_min ?n_range ?n_str ?n_tuple
    (case a_draw => k_is)
    (case l_draw => k_is)
    (case c_draw => k_is)
    (case k_draw => k_is)
    (case a_whole => k_is)
    (case l_whole => k_is)
    (case c_whole => k_is)
    (case k_whole => k_is)
    (case a_whole_page => k_is)
    (case l_whole_page => k_is)
    (case c_whole_page => k_is)
    (case k_whole_page => k_is)
    (case a_has_cover => k_is)
    (case l_has_cover => k_is)
    (case c_has_cover => k_is)
    (case k_has_cover => k_is)
    (case a_wide_row => k_is)
    (case l_wide_row => k_is)
    (case c_wide_row => k_is)
    (case k_wide_row => k_is)
    (case a_even_row => k_is)
    (case l_even_row => k_is)
    (case c_even_row => k_is)
    (case k_even_row => k_is)
    (case a_blocks_page => k_is)
    (case l_blocks_page => k_is)
    (case c_blocks_page => k_is)
    (case k_blocks_page => k_is)
    (case a_block => k_is)
    (case l_block => k_is)
    (case c_block => k_is)
    (case k_block => k_is)
    (case a_below => k_is)
    (case l_below => k_is)
    (case c_below => k_is)
    (case k_below => k_is)
    (case a_law_begin => k_is)
    (case l_law_begin => k_is)
    (case c_law_begin => k_is)
    (case k_law_begin => k_is)
    (case a_law_draw => k_is)
    (case l_law_draw => k_is)
    (case c_law_draw => k_is)
    (case k_law_draw => k_is)
    (case a_law_pick => k_is)
    (case l_law_pick => k_is)
    (case c_law_pick => k_is)
    (case k_law_pick => k_is)
    (case a_law_rare => k_is)
    (case l_law_rare => k_is)
    (case c_law_rare => k_is)
    (case k_law_rare => k_is)
    (case a_law_shuffled => k_is)
    (case l_law_shuffled => k_is)
    (case c_law_shuffled => k_is)
    (case k_law_shuffled => k_is)
    (case a_law_exact => k_is)
    (case l_law_exact => k_is)
    (case c_law_exact => k_is)
    (case k_law_exact => k_is)
    (case a_law_any_signs => k_is)
    (case l_law_any_signs => k_is)
    (case c_law_any_signs => k_is)
    (case k_law_any_signs => k_is)
    (case a_law_any_row => k_is)
    (case l_law_any_row => k_is)
    (case c_law_any_row => k_is)
    (case k_law_any_row => k_is)
    (case a_law_any_look => k_is)
    (case l_law_any_look => k_is)
    (case c_law_any_look => k_is)
    (case k_law_any_look => k_is)
    (case a_law_step_of => k_is)
    (case l_law_step_of => k_is)
    (case c_law_step_of => k_is)
    (case k_law_step_of => k_is)
    (case a_law_wide_due => k_is)
    (case l_law_wide_due => k_is)
    (case c_law_wide_due => k_is)
    (case k_law_wide_due => k_is)
    (case a_law_even_due => k_is)
    (case l_law_even_due => k_is)
    (case c_law_even_due => k_is)
    (case k_law_even_due => k_is)
    (case a_law_row_due => k_is)
    (case l_law_row_due => k_is)
    (case c_law_row_due => k_is)
    (case k_law_row_due => k_is)
    (case a_law_blocks_due => k_is)
    (case l_law_blocks_due => k_is)
    (case c_law_blocks_due => k_is)
    (case k_law_blocks_due => k_is)
    (case a_law_below_due => k_is)
    (case l_law_below_due => k_is)
    (case c_law_below_due => k_is)
    (case k_law_below_due => k_is)
    (case a_law_due => k_is)
    (case l_law_due => k_is)
    (case c_law_due => k_is)
    (case k_law_due => k_is)
    (case a_law => k_is)
    (case l_law => k_is)
    (case c_law => k_is)
    (case k_law => k_is)
    (case m_COVER => k_is)
    (case m_BLANK => k_is)
    (case n_abs => k_is)
    (case n_any => k_is)
    (case n_bool => k_is)
    (case n_enumerate => k_is)
    (case n_int => k_is)
    (case n_isinstance => k_is)
    (case n_len => k_is)
    (case n_list => k_is)
    (case n_max => k_is)
    (case n_min => k_is)
    (case n_range => k_is)
    (case n_str => k_is)
    (case n_tuple => k_is)
