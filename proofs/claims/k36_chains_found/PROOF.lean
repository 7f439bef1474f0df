import PyProof.Rows.All
import Wide.All
import OpenK.AllK
import Wide.FinOn
import HandS.ForMost
import HandS.IsInst
import HandS.Conv
import HandS.Evl
import PyProof.StrBlock2
import HandS.ExcInit
import HandS.ExcIs
import HandS.ExcField
import HandS.Wide
import HandS.Walk
import HandS.DictComp
import HandS.TupAny
import KE.DataMinMax
import KE.SortData
import PyProof.Claim2Refuses
import HandS.RevRange
import PySem.Challenge.RW_hushedpages_k36_chains_found
set_option Elab.async false
set_option linter.all false
set_option maxRecDepth 100000
set_option maxHeartbeats 4000000
namespace Vf
open PySem PySem.Spec PyProof.Rows L2
def topS (i : Nat) : Stmt := PySem.Challenge.pw_hushedpages_k36_chains_found.main.body.getD i (.Pass ⟨0, 0, 0, 0⟩)
abbrev s_chain_of : Stmt := topS 1
theorem sc_chain_of : FnScope ["tracks", "cells", "boundary", "demands", "rests", "ahead", "chain", "behind"] ["tracks", "cells", "boundary"] (defScope s_chain_of) := ⟨rfl, rfl, rfl, by decide +kernel, rfl, by decide +kernel, by decide +kernel⟩
abbrev s_demands : Stmt := topS 2
theorem sc_demands : FnScope ["tracks", "cells", "demands", "track", "span", "width", "sides"] ["tracks", "cells"] (defScope s_demands) := ⟨rfl, rfl, rfl, by decide +kernel, rfl, by decide +kernel, by decide +kernel⟩
abbrev s_law_begin : Stmt := topS 4
theorem sc_law_begin : FnScope ["_law_script"] ["_law_script"] (defScope s_law_begin) := ⟨rfl, rfl, rfl, by decide +kernel, rfl, by decide +kernel, by decide +kernel⟩
abbrev s_law_draw : Stmt := topS 5
theorem sc_law_draw : FnScope ["_law_d", "_law_many", "_law_cell", "_law_found"] ["_law_d", "_law_many"] (defScope s_law_draw) := ⟨rfl, rfl, rfl, by decide +kernel, rfl, by decide +kernel, by decide +kernel⟩
abbrev s_law_pick : Stmt := topS 6
theorem sc_law_pick : FnScope ["_law_d", "_law_row"] ["_law_d", "_law_row"] (defScope s_law_pick) := ⟨rfl, rfl, rfl, by decide +kernel, rfl, by decide +kernel, by decide +kernel⟩
abbrev s_law_rare : Stmt := topS 7
theorem sc_law_rare : FnScope ["_law_d", "_law_many"] ["_law_d", "_law_many"] (defScope s_law_rare) := ⟨rfl, rfl, rfl, by decide +kernel, rfl, by decide +kernel, by decide +kernel⟩
abbrev s_law_shuffled : Stmt := topS 8
theorem sc_law_shuffled : FnScope ["_law_d", "_law_row", "_law_left", "_law_found"] ["_law_d", "_law_row"] (defScope s_law_shuffled) := ⟨rfl, rfl, rfl, by decide +kernel, rfl, by decide +kernel, by decide +kernel⟩
abbrev s_law_exact : Stmt := topS 9
theorem sc_law_exact : FnScope ["_law_told", "_law_due", "_law_k"] ["_law_told", "_law_due"] (defScope s_law_exact) := ⟨rfl, rfl, rfl, by decide +kernel, rfl, by decide +kernel, by decide +kernel⟩
abbrev s_law_cells_drawn : Stmt := topS 10
theorem sc_law_cells_drawn : FnScope ["_law_d", "_law_tracks", "_law_many", "_law_gap", "_law_places", "_law_k", "_law_planted", "_law_cells", "_law_first", "_law_span", "_law_width"] ["_law_d", "_law_tracks", "_law_many"] (defScope s_law_cells_drawn) := ⟨rfl, rfl, rfl, by decide +kernel, rfl, by decide +kernel, by decide +kernel⟩
abbrev s_law_demand : Stmt := topS 11
theorem sc_law_demand : FnScope ["_law_cells", "_law_first", "_law_last", "_law_demands", "_law_c", "_law_s", "_law_w"] ["_law_cells", "_law_first", "_law_last"] (defScope s_law_demand) := ⟨rfl, rfl, rfl, by decide +kernel, rfl, by decide +kernel, by decide +kernel⟩
abbrev s_law_chains : Stmt := topS 12
theorem sc_law_chains : FnScope ["_law_tracks", "_law_cells", "_law_found", "_law_last", "_law_rows", "_law_first", "_law_demand_here", "_law_total", "_law_chain"] ["_law_tracks", "_law_cells"] (defScope s_law_chains) := ⟨rfl, rfl, rfl, by decide +kernel, rfl, by decide +kernel, by decide +kernel⟩
abbrev s_law_least_chain : Stmt := topS 13
theorem sc_law_least_chain : FnScope ["_law_rows", "_law_top", "_law_total", "_law_chain"] ["_law_rows"] (defScope s_law_least_chain) := ⟨rfl, rfl, rfl, by decide +kernel, rfl, by decide +kernel, by decide +kernel⟩
abbrev s_law_table_drawn : Stmt := topS 14
theorem sc_law_table_drawn : FnScope ["_law_d", "_law_tracks", "_law_many"] ["_law_d"] (defScope s_law_table_drawn) := ⟨rfl, rfl, rfl, by decide +kernel, rfl, by decide +kernel, by decide +kernel⟩
abbrev s_law : Stmt := topS 15
theorem sc_law : FnScope ["_law_script", "_law_d", "_law_one", "_law_two", "_law_tracks", "_law_cells", "_law_chains_here", "_law_other", "_law_boundary", "_law_due"] ["_law_script"] (defScope s_law) := ⟨rfl, rfl, rfl, by decide +kernel, rfl, by decide +kernel, by decide +kernel⟩
structure DefAt (K : PySem.W.Frag) (mg : Str → Option Value) (x : Str) (st : Stmt) (ps : List Str) (f : Addr) (fd : FuncData) : Prop where
  F : Fun K x x st f fd
  G : mg x = some (.ref f)
  B : Binds K fd ps []
  E : ∃ kV doc pm an cdv ct, fd = PySem.W.fnOf x x (defArgs st) (defBody st) (defScope st) .none kV doc pm an cdv ct
structure Txt (K : PySem.W.Frag) (mg : Str → Option Value) where
  a_chain_of : Addr
  d_chain_of : FuncData
  D_chain_of : DefAt K mg "chain_of" s_chain_of ["tracks", "cells", "boundary"] a_chain_of d_chain_of
  a_demands : Addr
  d_demands : FuncData
  D_demands : DefAt K mg "_demands" s_demands ["tracks", "cells"] a_demands d_demands
  a_law_begin : Addr
  d_law_begin : FuncData
  D_law_begin : DefAt K mg "_law_begin" s_law_begin ["_law_script"] a_law_begin d_law_begin
  a_law_draw : Addr
  d_law_draw : FuncData
  D_law_draw : DefAt K mg "_law_draw" s_law_draw ["_law_d", "_law_many"] a_law_draw d_law_draw
  a_law_pick : Addr
  d_law_pick : FuncData
  D_law_pick : DefAt K mg "_law_pick" s_law_pick ["_law_d", "_law_row"] a_law_pick d_law_pick
  a_law_rare : Addr
  d_law_rare : FuncData
  D_law_rare : DefAt K mg "_law_rare" s_law_rare ["_law_d", "_law_many"] a_law_rare d_law_rare
  a_law_shuffled : Addr
  d_law_shuffled : FuncData
  D_law_shuffled : DefAt K mg "_law_shuffled" s_law_shuffled ["_law_d", "_law_row"] a_law_shuffled d_law_shuffled
  a_law_exact : Addr
  d_law_exact : FuncData
  D_law_exact : DefAt K mg "_law_exact" s_law_exact ["_law_told", "_law_due"] a_law_exact d_law_exact
  a_law_cells_drawn : Addr
  d_law_cells_drawn : FuncData
  D_law_cells_drawn : DefAt K mg "_law_cells_drawn" s_law_cells_drawn ["_law_d", "_law_tracks", "_law_many"] a_law_cells_drawn d_law_cells_drawn
  a_law_demand : Addr
  d_law_demand : FuncData
  D_law_demand : DefAt K mg "_law_demand" s_law_demand ["_law_cells", "_law_first", "_law_last"] a_law_demand d_law_demand
  a_law_chains : Addr
  d_law_chains : FuncData
  D_law_chains : DefAt K mg "_law_chains" s_law_chains ["_law_tracks", "_law_cells"] a_law_chains d_law_chains
  a_law_least_chain : Addr
  d_law_least_chain : FuncData
  D_law_least_chain : DefAt K mg "_law_least_chain" s_law_least_chain ["_law_rows"] a_law_least_chain d_law_least_chain
  a_law_table_drawn : Addr
  d_law_table_drawn : FuncData
  D_law_table_drawn : DefAt K mg "_law_table_drawn" s_law_table_drawn ["_law_d"] a_law_table_drawn d_law_table_drawn
  a_law : Addr
  d_law : FuncData
  D_law : DefAt K mg "law" s_law ["_law_script"] a_law d_law
  n_bool : mg "bool" = none
  n_int : mg "int" = none
  n_isinstance : mg "isinstance" = none
  n_len : mg "len" = none
  n_list : mg "list" = none
  n_max : mg "max" = none
  n_min : mg "min" = none
  n_range : mg "range" = none
  n_reversed : mg "reversed" = none
  n_str : mg "str" = none
  n_tuple : mg "tuple" = none
/-! ### the dice -/
/-- at d the dice, at l the script's copy -/
structure DI (d l : Addr) (H : Hp) : Prop where
  ne : l ≠ d
  sc : ∃ ns : List Int, H l = some (.lst (ns.map V.int))
  st : ∃ i b s c : Int, 0 ≤ i ∧ H d = some (.lst [.ref l, .int i, .int b, .int s, .int c])
/-- all but the dice stands -/
def Kp (d : Addr) (H H' : Hp) : Prop := ∀ b o, b ≠ d → H b = some o → H' b = some o
theorem Kp.refl (d : Addr) (H : Hp) : Kp d H H := fun _ _ _ h => h
theorem Kp.trans {d : Addr} {H H1 H2 : Hp} (a : Kp d H H1) (b : Kp d H1 H2) : Kp d H H2 := fun x o n h => b x o n (a x o n h)
theorem Kp.upd {d : Addr} {H H' : Hp} {o : HO} (a : Kp d H H') : Kp d H (upd H' d o) := fun x u n h => by
  rw [upd_ne n]; exact a x u n h
theorem Kp.new {d p : Addr} {H H' : Hp} {o : HO} (a : Kp d H H') (hp : H' p = none) : Kp d H (L2.upd H' p o) := fun x u n h => by
  have h2 := a x u n h
  rw [upd_ne (ne_of_none h2 hp)]; exact h2
theorem Kp.mut {d p : Addr} {H H' : Hp} {o : HO} (a : Kp d H H') (hp : H p = none) : Kp d H (L2.upd H' p o) := fun x u n h => by
  rw [upd_ne (ne_of_none h hp)]; exact a x u n h
theorem Kp.sq {K : PySem.W.Frag} {d a : Addr} {H H' : Hp} {xs : List V} (k : Kp d H H') (n : a ≠ d) (h : SqL K H a xs) : SqL K H' a xs := by
  rcases h with (h | ⟨o, h⟩) | h
  · exact .inl (.inl (k _ _ n h))
  · exact .inl (.inr ⟨o, k _ _ n h⟩)
  · exact .inr h
theorem DI.keep {d l : Addr} {H H' : Hp} (h : DI d l H) (e : ∀ b o, H b = some o → H' b = some o) : DI d l H' := by
  obtain ⟨n, ⟨ns, h1⟩, i, b, s, c, h0, h2⟩ := h
  exact ⟨n, ⟨ns, e _ _ h1⟩, i, b, s, c, h0, e _ _ h2⟩
theorem DI.at {d l p : Addr} {H : Hp} {o : HO} (h : DI d l H) (n1 : p ≠ d) (n2 : p ≠ l) : DI d l (upd H p o) := by
  obtain ⟨n, ⟨ns, h1⟩, i, b, s, c, h0, h2⟩ := h
  exact ⟨n, ⟨ns, by rw [upd_ne n2.symm]; exact h1⟩, i, b, s, c, h0, by rw [upd_ne n1.symm]; exact h2⟩
theorem DI.new {d l p : Addr} {H : Hp} {o : HO} (h : DI d l H) (hp : H p = none) : DI d l (upd H p o) :=
  h.keep fun b u e => by rw [upd_ne (ne_of_none e hp)]; exact e
theorem DI.nd {d l p : Addr} {H : Hp} (h : DI d l H) (hp : H p = none) : p ≠ d ∧ p ≠ l := by
  obtain ⟨n, ⟨ns, h1⟩, i, b, s, c, h0, h2⟩ := h
  exact ⟨fun e => (by rw [e, h2] at hp; cases hp), fun e => (by rw [e, h1] at hp; cases hp)⟩
theorem DI.set {d l : Addr} {H : Hp} {i b s c : Int} (h : DI d l H) (h0 : 0 ≤ i) : DI d l (upd H d (.lst [.ref l, .int i, .int b, .int s, .int c])) := by
  obtain ⟨n, ⟨ns, h1⟩, _⟩ := h
  exact ⟨n, ⟨ns, by rw [upd_ne n]; exact h1⟩, i, b, s, c, h0, upd_same⟩
section
variable {P : Program} {w : World} {K : PySem.W.Frag} {mg : Str → Option Value} {base : Heap}
/-! ### begin -/
def spBegin (K : PySem.W.Frag) : Sp := fun vs H Q _ => ∃ (a : Addr) (ns : List Int), vs = [.ref a] ∧ SqL K H a (ns.map V.int) ∧ ns.length ≤ 63 ∧
  ∀ H' d l, Same H H' → DI d l H' → Q (.ref d) H'
theorem ok_begin (T : Txt K mg) : FnOk P w K mg base CX0 1 T.a_law_begin T.d_law_begin ["_law_script"] (spBegin K) := by
  refine T.D_law_begin.F.ok sc_law_begin (fun vs H Q E h => ?_) (fun cdv A outer s H vs Q E hr h => ?_)
  · obtain ⟨a, ns, rfl, _⟩ := h
    rfl
  · obtain ⟨a, ns, rfl, hS, hl, q⟩ := h
    refine ⟨_, (pss_one (ps_ret (pe_lst (pa_cons (pe_callTy call_list_of (by rfl) T.n_list (by decide +kernel) (pa_cons (pv 0) pa_nil)) (pa_cons pe_int (pa_cons pe_int (pa_cons pe_int (pa_cons pe_int pa_nil)))))))), ?_⟩
    refine ⟨_, rfl, a, _, rfl, .inl hS, fun l nl => ?_⟩
    refine ⟨by show 5 ≤ sizeLine; decide, fun d nd => ?_⟩
    refine q _ d l (fun b o e => ?_) ?_
    · have n1 : b ≠ l := ne_of_none e nl
      have e1 : upd H l (.lst (ns.map V.int)) b = some o := by rw [upd_ne n1]; exact e
      rw [upd_ne (ne_of_none e1 nd)]
      exact e1
    · have e1 : upd H l (.lst (ns.map V.int)) l = some (.lst (ns.map V.int)) := upd_same
      have n1 : l ≠ d := ne_of_none e1 nd
      exact ⟨n1, ⟨ns, by rw [upd_ne n1]; exact e1⟩, 0, 0, 7, 0, by decide, upd_same⟩
/-! ### draw -/
def spDraw : Sp := fun vs H Q _ => ∃ (d l : Addr) (m : Int), vs = [.ref d, .int m] ∧ DI d l H ∧ m ≤ 1000000 ∧
  ∀ H' r, Kp d H H' → DI d l H' → (m < 2 → r = 0) → (2 ≤ m → 0 ≤ r ∧ r < m) → Q (.int r) H'
theorem ok_draw (T : Txt K mg) : FnOk P w K mg base CX0 1 T.a_law_draw T.d_law_draw ["_law_d", "_law_many"] spDraw := by
  refine T.D_law_draw.F.ok sc_law_draw (fun vs H Q E h => ?_) (fun cdv A outer s H vs Q E hr h => ?_)
  · obtain ⟨d, l, m, rfl, _⟩ := h
    rfl
  · obtain ⟨d, l, m, rfl, hD, hm, q⟩ := h
    refine ⟨_, (pss_cons (ps_if (pt_cmpR op_lt (pv 1) pe_int (nomark _)) (pss_one (ps_ret pe_int)) pss_nil)
      (pss_cons (ps_set (i := 2) sc_law_draw.nd rfl (.inl rfl) (pe_op op_add (pe_op op_mul (pe_ix ix_list (pv 0) pe_int (fun _ _ => rfl)) pe_int) pe_int))
      (Evl.pss_cut (ps_if (PW.pt (pw_and (pt_cmpR op_eq (pe_ix ix_list (pv 0) pe_int (fun _ _ => rfl)) pe_int (nomark _)) (pw_and1 (pt_cmpR op_lt (pe_ix ix_list (pv 0) pe_int (fun _ _ => rfl)) (pe_callB call_len_seq (by rfl) T.n_len PySem.boot_len (pa_cons (pe_ix ix_list (pv 0) pe_int (fun _ _ => rfl)) pa_nil)) (nomark _))))) (pss_cons (ps_set (i := 2) sc_law_draw.nd rfl (.inl rfl) (pe_ix ix_list (pe_ix ix_list (pv 0) pe_int (fun _ _ => rfl)) (pe_ix ix_list (pv 0) pe_int (fun _ _ => rfl)) (fun _ _ => rfl)))
      (pss_cons (ps_asg (pe_op op_add (pe_ix ix_list (pv 0) pe_int (fun _ _ => rfl)) pe_int) (pg_sub (pv 0) pe_int set_list))
      (Evl.pss_cut (ps_if (pt_cmpR op_lt (pv 2) pe_int (nomark _)) (pss_one (ps_set (i := 2) sc_law_draw.nd rfl (.inl rfl) (pe_op op_sub pe_int (pe_op op_mul pe_int (pv 2))))) pss_nil)
      (pss_one (ps_if (pt_cmpR op_ge (pv 2) pe_int (nomark _)) (pss_cons (ps_set (i := 2) sc_law_draw.nd rfl (.inl rfl) (pe_op op_and (pv 2) (pe_op op_sub (pe_op op_shl pe_int pe_int) pe_int)))
      (pss_one (ps_asg (pv 2) (pg_sub (pv 0) pe_int set_list)))) pss_nil))))) pss_nil)
      (pss_cons (ps_if (pt_cmpR op_gt (pe_ix ix_list (pv 0) pe_int (fun _ _ => rfl)) pe_int (nomark _)) (pss_cons (ps_set (i := 3) sc_law_draw.nd rfl (.inl rfl) (pe_op op_modN (pe_callTy call_int1 (by rfl) T.n_int (by decide +kernel) (pa_cons (pe_ix ix_list (pv 0) pe_int (fun _ _ => rfl)) pa_nil)) (pv 1)))
      (pss_cons (ps_asg (pe_op op_fdivN (pe_ix ix_list (pv 0) pe_int (fun _ _ => rfl)) (pv 1)) (pg_sub (pv 0) pe_int set_list))
      (pss_one (ps_ret (pv 3))))) pss_nil)
      (pss_cons (ps_asg (pe_op op_add (pe_ix ix_list (pv 0) pe_int (fun _ _ => rfl)) pe_int) (pg_sub (pv 0) pe_int set_list))
      (pss_cons (ps_asg (pe_op op_modN (pe_callTy call_int1 (by rfl) T.n_int (by decide +kernel) (pa_cons (pe_op op_add (pe_op op_add (pe_op op_mul (pe_ix ix_list (pv 0) pe_int (fun _ _ => rfl)) pe_int) (pe_op op_mul (pv 2) pe_int)) (pe_op op_mul (pe_ix ix_list (pv 0) pe_int (fun _ _ => rfl)) pe_int)) pa_nil)) pe_int) (pg_sub (pv 0) pe_int set_list))
      (pss_one (ps_ret (pe_op op_modN (pe_callTy call_int1 (by rfl) T.n_int (by decide +kernel) (pa_cons (pe_op op_modN (pe_callTy call_int1 (by rfl) T.n_int (by decide +kernel) (pa_cons (pe_op op_add (pe_op op_add (pe_op op_mul (pe_ix ix_list (pv 0) pe_int (fun _ _ => rfl)) pe_int) (pe_op op_mul (pe_ix ix_list (pv 0) pe_int (fun _ _ => rfl)) pe_int)) pe_int) pa_nil)) pe_int) pa_nil)) (pv 1)))))))))), ?_⟩
    refine ⟨_, rfl, _, _, rfl, rfl, _, rfl, ite2 (fun e => ?_) (fun e => ?_)⟩
    · have e := of_decide_eq_true e
      exact q H 0 (Kp.refl d H) hD (fun _ => rfl) (fun z => by omega)
    have hm2 : 2 ≤ m := by
      have e2 : ¬ m < 2 := fun z => e (decide_eq_true z)
      omega
    have hmN : m ≠ 0 := by omega
    have hmA : m.natAbs < 1073741824 := by omega
    have fm : ∀ z : Int, 0 ≤ z.fmod m ∧ z.fmod m < m := fun z => ⟨Int.fmod_nonneg_of_pos z (by omega), Int.fmod_lt_of_pos z (by omega)⟩
    obtain ⟨n, ⟨ns, h1⟩, i, b, s5, c, h0, h2⟩ := id hD
    -- cell = d[4] * 977 + 3
    refine ⟨_, rfl, _, _, _, _, rfl, rfl, SqL.of h2, rfl, _, _, rfl, rfl, .inr ⟨by decide, by decide⟩, _, _, rfl, rfl, ?_⟩
    refine ⟨fun σ' H' => ∃ (cell : Int) (x3 : Option V), σ' = [some (.ref d), some (.int m), some (.int cell), x3] ∧ Kp d H H' ∧ DI d l H', ?_, ?_⟩
    · -- the cell
      refine ⟨_, rfl, _, _, _, _, rfl, rfl, SqL.of h2, rfl, rfl, _, rfl, ite2 (fun e1 => ?_) (fun e1 => ?_)⟩
      · refine ⟨_, rfl, _, _, _, _, rfl, rfl, SqL.of h2, rfl, _, rfl, _, _, _, _, rfl, rfl, SqL.of h2, rfl, _, _, rfl, .inl (SqL.of h1), _, _, rfl, rfl, _, rfl, ite2 (fun e2 => ?_) (fun e2 => ?_)⟩
        · have e2 := of_decide_eq_true e2
          rw [List.length_map] at e2
          obtain ⟨j, rfl⟩ : ∃ j : Nat, i = (j : Int) := ⟨i.toNat, by omega⟩
          have hj : j < ns.length := by omega
          have gj : (ns.map V.int)[j]? = some (.int ns[j]) := by
            rw [List.getElem?_map, List.getElem?_eq_getElem hj]; rfl
          refine ⟨_, rfl, _, _, _, _, rfl, rfl, SqL.of h2, rfl, _, rfl, _, _, _, _, rfl, rfl, SqL.of h2, rfl, _, _, _, _, rfl, rfl, SqL.of h1, atI_nat gj, ?_⟩
          -- d[1] = d[1] + 1
          refine ⟨_, rfl, _, _, _, _, rfl, rfl, SqL.of h2, rfl, _, _, rfl, rfl, _, rfl, _, _, _, _, rfl, rfl, h2, rfl, ?_⟩
          have D1 := hD.set (i := (j : Int) + 1) (b := b) (s := s5) (c := c) (by omega)
          have K1 : Kp d H (upd H d (.lst [.ref l, .int ((j : Int) + 1), .int b, .int s5, .int c])) := (Kp.refl d H).upd
          refine ⟨fun σ' H' => ∃ (cell : Int) (x3 : Option V), σ' = [some (.ref d), some (.int m), some (.int cell), x3] ∧ H' = upd H d (.lst [.ref l, .int ((j : Int) + 1), .int b, .int s5, .int c]), ?_, ?_⟩
          · refine ⟨_, rfl, _, _, rfl, rfl, _, rfl, ite2 (fun _ => ?_) (fun _ => ?_)⟩
            · exact ⟨_, rfl, _, _, rfl, rfl, .inl ⟨by decide, by decide⟩, _, _, rfl, rfl, _, _, rfl, rfl⟩
            · exact ⟨_, _, rfl, rfl⟩
          · rintro σ' H' ⟨cell, x3, rfl, rfl⟩
            refine ⟨_, rfl, _, _, rfl, rfl, _, rfl, ite2 (fun _ => ?_) (fun _ => ?_)⟩
            · refine ⟨_, rfl, _, _, rfl, rfl, ⟨by decide, by decide, by decide⟩, _, _, rfl, rfl, _, _, rfl, rfl, ?_⟩
              refine ⟨_, rfl, _, rfl, _, _, _, _, rfl, rfl, upd_same, rfl, ?_⟩
              exact ⟨_, _, rfl, K1.upd, D1.set (by omega)⟩
            · exact ⟨_, _, rfl, K1, D1⟩
        · exact ⟨_, _, rfl, Kp.refl d H, hD⟩
      · exact ⟨_, _, rfl, Kp.refl d H, hD⟩
    · rintro σ' H1 ⟨cell, x3, rfl, K1, D1⟩
      obtain ⟨n, ⟨ns, h1⟩, i, b, s5, c, h0, h2⟩ := id D1
      refine ⟨_, rfl, _, _, _, _, rfl, rfl, SqL.of h2, rfl, _, _, rfl, rfl, _, rfl, ite2 (fun e1 => ?_) (fun e1 => ?_)⟩
      · refine ⟨_, rfl, _, _, _, _, rfl, rfl, SqL.of h2, rfl, .inl ⟨_, rfl, _, rfl, _, _, rfl, rfl, hmN, ?_⟩⟩
        refine ⟨_, rfl, _, _, _, _, rfl, rfl, SqL.of h2, rfl, _, rfl, _, _, rfl, rfl, ⟨hmN, hmA⟩, _, rfl, _, _, _, _, rfl, rfl, h2, rfl, ?_⟩
        exact ⟨_, rfl, q _ _ K1.upd (D1.set h0) (fun z => by omega) (fun _ => fm _)⟩
      · refine ⟨_, rfl, _, _, _, _, rfl, rfl, SqL.of h2, rfl, _, _, rfl, rfl, _, rfl, _, _, _, _, rfl, rfl, h2, rfl, ?_⟩
        refine ⟨_, rfl, _, _, _, _, rfl, rfl, SqL.of upd_same, rfl, _, _, rfl, rfl, .inr ⟨by decide, by decide⟩, _, rfl, _, _, rfl, rfl, .inr ⟨by decide, by decide⟩, _, _, rfl, rfl, _, rfl, _, _, _, _, rfl, rfl, SqL.of upd_same, rfl, _, _, rfl, rfl, .inr ⟨by decide, by decide⟩, _, _, rfl, rfl, .inl ⟨_, rfl, _, _, rfl, rfl, (by show (2147483647 : Int) ≠ 0; decide), _, rfl, _, _, _, _, rfl, rfl, upd_same, rfl, ?_⟩⟩
        refine ⟨_, rfl, _, _, _, _, rfl, rfl, SqL.of upd_same, rfl, _, _, rfl, rfl, .inr ⟨by decide, by decide⟩, _, rfl, _, _, _, _, rfl, rfl, SqL.of upd_same, rfl, _, _, rfl, rfl, .inr ⟨by decide, by decide⟩, _, _, rfl, rfl, _, _, rfl, rfl, .inl ⟨_, rfl, _, _, rfl, rfl, (by show (2147483399 : Int) ≠ 0; decide), .inl ⟨_, rfl, _, rfl, _, _, rfl, rfl, hmN, ?_⟩⟩⟩
        exact q _ _ K1.upd.upd ((D1.set h0).set h0) (fun z => by omega) (fun _ => fm _)
end
end Vf

set_option Elab.async false
set_option linter.all false
set_option maxRecDepth 100000
set_option maxHeartbeats 4000000
namespace Vf
open PySem PySem.Spec PyProof.Rows L2 TL
/-! ### the mathematics of tokens -/
def sW : Str := "abcdefghijklmnopqrstuvwxyz0123456789.,:;!?'()+=<>*/"
def sL : Str := "abcdefghijklmnopqrstuvwxyz"
def sB : Str := " \n"
def sOdd : Str := "\"#$&-ABCDEFGHIJKLMNOPQRSTUVWXYZ[\\]^_`|~"
def cW (c : Nat) : Bool := decide (c ∈ sW.cps.toList)
def cL (c : Nat) : Bool := decide (c ∈ sL.cps.toList)
def cB (c : Nat) : Bool := decide (c ∈ sB.cps.toList)
/-- the text of these signs -/
def mkS (zs : List Nat) : Str := ⟨zs.toArray⟩
def sV (zs : List Nat) : V := .str (mkS zs)
theorem mkS_cps (zs : List Nat) : (mkS zs).cps.toList = zs := rfl
theorem mkS_of (z : Str) : mkS z.cps.toList = z := rfl
theorem mkS_len (zs : List Nat) : (mkS zs).length = zs.length := by simp [mkS, Str.length]
theorem len_cps (z : Str) : z.length = z.cps.toList.length := by simp [Str.length]
theorem mkS_app (a b : List Nat) : mkS a ++ mkS b = mkS (a ++ b) := by
  have h : (mkS a ++ mkS b).cps.toList = a ++ b := by rw [Str.cps_append, Array.toList_append]; rfl
  rw [← h]
  rfl
theorem mkS_inj {a b : List Nat} (h : mkS a = mkS b) : a = b := by
  have h2 := congrArg (fun z : Str => z.cps.toList) h
  exact h2
theorem sW_list : sW.cps.toList = [97,98,99,100,101,102,103,104,105,106,107,108,109,110,111,112,113,114,115,116,117,118,119,120,121,122,48,49,50,51,52,53,54,55,56,57,46,44,58,59,33,63,39,40,41,43,61,60,62,42,47] := by decide +kernel
theorem sL_list : sL.cps.toList = [97,98,99,100,101,102,103,104,105,106,107,108,109,110,111,112,113,114,115,116,117,118,119,120,121,122] := by decide +kernel
theorem sB_list : sB.cps.toList = [32, 10] := by decide +kernel
theorem cL_W {c : Nat} (h : cL c = true) : cW c = true := by
  have h1 := of_decide_eq_true h
  refine decide_eq_true ?_
  rw [sL_list] at h1
  rw [sW_list]
  rw [show ([97,98,99,100,101,102,103,104,105,106,107,108,109,110,111,112,113,114,115,116,117,118,119,120,121,122,48,49,50,51,52,53,54,55,56,57,46,44,58,59,33,63,39,40,41,43,61,60,62,42,47] : List Nat) = [97,98,99,100,101,102,103,104,105,106,107,108,109,110,111,112,113,114,115,116,117,118,119,120,121,122] ++ [48,49,50,51,52,53,54,55,56,57,46,44,58,59,33,63,39,40,41,43,61,60,62,42,47] from rfl]
  exact List.mem_append_left _ h1
theorem cW_B {c : Nat} (h : cW c = true) : cB c = false := by
  refine decide_eq_false fun h2 => ?_
  rw [sB_list] at h2
  have h1 := of_decide_eq_true h
  rw [sW_list] at h1
  simp only [List.mem_cons, List.not_mem_nil, or_false] at h2
  rcases h2 with rfl | rfl
  · exact absurd h1 (by decide)
  · exact absurd h1 (by decide)
theorem cW_at : cW 64 = false := by
  unfold cW
  rw [sW_list]
  decide
theorem cB_at : cB 64 = false := by
  unfold cB
  rw [sB_list]
  decide
theorem cW_ne {c : Nat} (h : cW c = true) : c ≠ 64 := fun e => by
  rw [e, cW_at] at h
  cases h
theorem drop_le {α : Type} (p : α → Bool) : ∀ l : List α, (l.dropWhile p).length ≤ l.length
  | [] => Nat.le_refl _
  | c :: r => by
    rw [List.dropWhile_cons]
    split
    · exact Nat.le_trans (drop_le p r) (Nat.le_succ _)
    · exact Nat.le_refl _
/-- the tokens of a text -/
def tokF : Nat → List Nat → List (List Nat)
  | 0, _ => []
  | _ + 1, [] => []
  | n + 1, c :: r =>
    if cB c then tokF n r else if c = 64 then (c :: r.takeWhile cL) :: tokF n (r.dropWhile cL)
    else if cW c then (c :: r.takeWhile cW) :: tokF n (r.dropWhile cW) else [c] :: tokF n r
theorem tokF_more : ∀ (n m : Nat) (zs : List Nat), zs.length ≤ n → zs.length ≤ m → tokF n zs = tokF m zs
  | 0, 0, _, _, _ => rfl
  | 0, m + 1, zs, h, _ => by
    have e : zs = [] := List.length_eq_zero_iff.mp (Nat.le_zero.mp h)
    subst e
    rfl
  | n + 1, 0, zs, _, h => by
    have e : zs = [] := List.length_eq_zero_iff.mp (Nat.le_zero.mp h)
    subst e
    rfl
  | n + 1, m + 1, [], _, _ => rfl
  | n + 1, m + 1, c :: r, h1, h2 => by
    have a1 : r.length ≤ n := Nat.le_of_succ_le_succ h1
    have a2 : r.length ≤ m := Nat.le_of_succ_le_succ h2
    have d1 := drop_le cL r
    have d2 := drop_le cW r
    show (if cB c then tokF n r else if c = 64 then (c :: r.takeWhile cL) :: tokF n (r.dropWhile cL) else if cW c then (c :: r.takeWhile cW) :: tokF n (r.dropWhile cW) else [c] :: tokF n r) =
      (if cB c then tokF m r else if c = 64 then (c :: r.takeWhile cL) :: tokF m (r.dropWhile cL) else if cW c then (c :: r.takeWhile cW) :: tokF m (r.dropWhile cW) else [c] :: tokF m r)
    rw [tokF_more n m r a1 a2, tokF_more n m _ (Nat.le_trans d1 a1) (Nat.le_trans d1 a2), tokF_more n m _ (Nat.le_trans d2 a1) (Nat.le_trans d2 a2)]
def tok (zs : List Nat) : List (List Nat) := tokF zs.length zs
theorem tok_nil : tok [] = [] := rfl
theorem tok_cons (c : Nat) (r : List Nat) : tok (c :: r) = if cB c then tok r else if c = 64 then (c :: r.takeWhile cL) :: tok (r.dropWhile cL)
    else if cW c then (c :: r.takeWhile cW) :: tok (r.dropWhile cW) else [c] :: tok r := by
  show (if cB c then tokF r.length r else if c = 64 then (c :: r.takeWhile cL) :: tokF r.length (r.dropWhile cL) else if cW c then (c :: r.takeWhile cW) :: tokF r.length (r.dropWhile cW) else [c] :: tokF r.length r) = _
  rw [tokF_more r.length (r.dropWhile cL).length (r.dropWhile cL) (drop_le _ _) (Nat.le_refl _), tokF_more r.length (r.dropWhile cW).length (r.dropWhile cW) (drop_le _ _) (Nat.le_refl _)]
  rfl
/-! #### what the law's own walk has found, and how it goes on -/
def cont : Nat → List (List Nat) → List Nat → List (List Nat)
  | 1, f, r => f.dropLast ++ ((f.getLast?.getD []) ++ r.takeWhile cW) :: tok (r.dropWhile cW)
  | 2, f, r => f.dropLast ++ ((f.getLast?.getD []) ++ r.takeWhile cL) :: tok (r.dropWhile cL)
  | _, f, r => f ++ tok r
theorem cont0 (f : List (List Nat)) (r : List Nat) : cont 0 f r = f ++ tok r := rfl
theorem cont1 (g : List (List Nat)) (t r : List Nat) : cont 1 (g ++ [t]) r = g ++ (t ++ r.takeWhile cW) :: tok (r.dropWhile cW) := by
  show (g ++ [t]).dropLast ++ (((g ++ [t]).getLast?.getD []) ++ r.takeWhile cW) :: tok (r.dropWhile cW) = _
  rw [List.dropLast_concat, List.getLast?_concat]; rfl
theorem cont2 (g : List (List Nat)) (t r : List Nat) : cont 2 (g ++ [t]) r = g ++ (t ++ r.takeWhile cL) :: tok (r.dropWhile cL) := by
  show (g ++ [t]).dropLast ++ (((g ++ [t]).getLast?.getD []) ++ r.takeWhile cL) :: tok (r.dropWhile cL) = _
  rw [List.dropLast_concat, List.getLast?_concat]; rfl
/-- a sign that goes on -/
theorem cont1_on {c : Nat} (h : cW c = true) (g : List (List Nat)) (t r : List Nat) : cont 1 (g ++ [t]) (c :: r) = cont 1 (g ++ [t ++ [c]]) r := by
  rw [cont1, cont1, List.takeWhile_cons_of_pos h, List.dropWhile_cons_of_pos h, List.append_assoc]; rfl
theorem cont2_on {c : Nat} (h : cL c = true) (g : List (List Nat)) (t r : List Nat) : cont 2 (g ++ [t]) (c :: r) = cont 2 (g ++ [t ++ [c]]) r := by
  rw [cont2, cont2, List.takeWhile_cons_of_pos h, List.dropWhile_cons_of_pos h, List.append_assoc]; rfl
/-- a sign that doesn't -/
theorem cont1_off {c : Nat} (h : cW c = false) (g : List (List Nat)) (t r : List Nat) : cont 1 (g ++ [t]) (c :: r) = cont 0 (g ++ [t]) (c :: r) := by
  rw [cont1, cont0, List.takeWhile_cons_of_neg (by rw [h]; decide), List.dropWhile_cons_of_neg (by rw [h]; decide), List.append_nil, List.append_assoc]; rfl
theorem cont2_off {c : Nat} (h : cL c = false) (g : List (List Nat)) (t r : List Nat) : cont 2 (g ++ [t]) (c :: r) = cont 0 (g ++ [t]) (c :: r) := by
  rw [cont2, cont0, List.takeWhile_cons_of_neg (by rw [h]; decide), List.dropWhile_cons_of_neg (by rw [h]; decide), List.append_nil, List.append_assoc]; rfl
theorem cont_blank {c : Nat} (h : cB c = true) (f : List (List Nat)) (r : List Nat) : cont 0 f (c :: r) = cont 0 f r := by
  rw [cont0, cont0, tok_cons, if_pos h]
theorem cont_at (f : List (List Nat)) (r : List Nat) : cont 0 f (64 :: r) = cont 2 (f ++ [[64]]) r := by
  rw [cont0, cont2, tok_cons, if_neg (by rw [cB_at]; decide), if_pos rfl]; rfl
theorem cont_word {c : Nat} (h : cW c = true) (f : List (List Nat)) (r : List Nat) : cont 0 f (c :: r) = cont 1 (f ++ [[c]]) r := by
  rw [cont0, cont1, tok_cons, if_neg (by rw [cW_B h]; decide), if_neg (cW_ne h), if_pos h]; rfl
theorem cont_odd {c : Nat} (hb : cB c = false) (h : cW c = false) (ha : c ≠ 64) (f : List (List Nat)) (r : List Nat) : cont 0 f (c :: r) = cont 0 (f ++ [[c]]) r := by
  rw [cont0, cont0, tok_cons, if_neg (by rw [hb]; decide), if_neg ha, if_neg (by rw [h]; decide), List.append_assoc]; rfl
theorem cont_end1 (g : List (List Nat)) (t : List Nat) : cont 1 (g ++ [t]) [] = g ++ [t] := by
  rw [cont1]; show g ++ [t ++ []] = _; rw [List.append_nil]
theorem cont_end2 (g : List (List Nat)) (t : List Nat) : cont 2 (g ++ [t]) [] = g ++ [t] := by
  rw [cont2]; show g ++ [t ++ []] = _; rw [List.append_nil]
theorem cont_end0 (f : List (List Nat)) : cont 0 f [] = f := by
  rw [cont0, tok_nil, List.append_nil]
/-! #### tokens put together -/
/-- blanks and line feeds alone -/
def Bl (g : List Nat) : Prop := ∀ c ∈ g, cB c = true
/-- a token -/
def Tk (t : List Nat) : Prop := (∃ c, t = [c] ∧ cB c = false ∧ cW c = false ∧ c ≠ 64) ∨ (∃ r, t = 64 :: r ∧ ∀ c ∈ r, cL c = true) ∨ (t ≠ [] ∧ ∀ c ∈ t, cW c = true)
/-- the one runs on into the other -/
def runs (t u : List Nat) : Bool := if t.headD 0 = 64 then cL (u.headD 0) else cW (t.headD 0) && cW (u.headD 0)
theorem tok_gap : ∀ (g r : List Nat), Bl g → tok (g ++ r) = tok r
  | [], _, _ => rfl
  | c :: g, r, h => by
    rw [List.cons_append, tok_cons, if_pos (h c List.mem_cons_self)]
    exact tok_gap g r fun z hz => h z (List.mem_cons_of_mem _ hz)
theorem take_all {p : Nat → Bool} : ∀ (t r : List Nat), (∀ c ∈ t, p c = true) → (∀ c r', r = c :: r' → p c = false) → (t ++ r).takeWhile p = t ∧ (t ++ r).dropWhile p = r
  | [], [], _, _ => ⟨rfl, rfl⟩
  | [], c :: r, _, h => by
    have e := h c r rfl
    rw [List.nil_append, List.takeWhile_cons_of_neg (by rw [e]; decide), List.dropWhile_cons_of_neg (by rw [e]; decide)]
    exact ⟨rfl, rfl⟩
  | c :: t, r, ht, h => by
    have ⟨a, b⟩ := take_all t r (fun z hz => ht z (List.mem_cons_of_mem _ hz)) h
    rw [List.cons_append, List.takeWhile_cons_of_pos (ht c List.mem_cons_self), List.dropWhile_cons_of_pos (ht c List.mem_cons_self), a, b]
    exact ⟨rfl, rfl⟩
theorem tok_tok {t r : List Nat} (h : Tk t) (hr : r = [] ∨ runs t r = false) : tok (t ++ r) = t :: tok r := by
  rcases h with ⟨c, rfl, hb, hw, ha⟩ | ⟨u, rfl, hu⟩ | ⟨hn, hw⟩
  · show tok (c :: r) = _
    rw [tok_cons, if_neg (by rw [hb]; decide), if_neg ha, if_neg (by rw [hw]; decide)]
  · have hs : ∀ c r', r = c :: r' → cL c = false := by
      intro c r' e
      rcases hr with z | z
      · rw [z] at e; cases e
      · subst e; exact z
    have ⟨a, b⟩ := take_all u r hu hs
    rw [List.cons_append, tok_cons, if_neg (by rw [cB_at]; decide), if_pos rfl, a, b]
  · cases t with
    | nil => exact absurd rfl hn
    | cons c u =>
      have hc := hw c List.mem_cons_self
      have hs : ∀ x r', r = x :: r' → cW x = false := by
        intro x r' e
        rcases hr with z | z
        · rw [z] at e; cases e
        · subst e
          unfold runs at z
          rw [show (c :: u).headD 0 = c from rfl, if_neg (cW_ne hc), hc] at z
          exact z
      have ⟨a, b⟩ := take_all u r (fun z hz => hw z (List.mem_cons_of_mem _ hz)) hs
      rw [List.cons_append, tok_cons, if_neg (by rw [cW_B hc]; decide), if_neg (cW_ne hc), if_pos hc, a, b]
/-- tokens and the gaps behind them, put into one row -/
def mixed : List (List Nat) → List (List Nat) → List Nat
  | t :: ts, g :: gs => t ++ (g ++ mixed ts gs)
  | _, _ => []
/-- what is asked of a gap behind token k -/
def need (ts : List (List Nat)) (k : Nat) : Bool := match ts[k]?, ts[k + 1]? with
  | some t, some u => runs t u
  | _, _ => false
theorem runs_bl {t g r : List Nat} (hn : g ≠ []) (hg : Bl g) : runs t (g ++ r) = false := by
  cases g with
  | nil => exact absurd rfl hn
  | cons c g =>
    have hb := hg c List.mem_cons_self
    have hw : cW c = false := by
      cases e : cW c with
      | false => rfl
      | true => rw [cW_B e] at hb; cases hb
    have hl : cL c = false := by
      cases e : cL c with
      | false => rfl
      | true => rw [cL_W e] at hw; cases hw
    unfold runs
    rw [List.cons_append]
    show (if t.headD 0 = 64 then cL c else cW (t.headD 0) && cW c) = false
    rw [hl, hw, Bool.and_false]
    split <;> rfl
theorem runs_head {t u r : List Nat} (hu : u ≠ []) : runs t (u ++ r) = runs t u := by
  cases u with
  | nil => exact absurd rfl hu
  | cons c u => rfl
theorem Tk.ne {t : List Nat} (h : Tk t) : t ≠ [] := by
  rcases h with ⟨c, rfl, _⟩ | ⟨r, rfl, _⟩ | ⟨h, _⟩
  · exact fun e => by cases e
  · exact fun e => by cases e
  · exact h
theorem tok_mixed : ∀ (ts gs : List (List Nat)), (∀ t ∈ ts, Tk t) → gs.length = ts.length → (∀ k g, gs[k]? = some g → Bl g ∧ (need ts k = true → g ≠ [])) → tok (mixed ts gs) = ts
  | [], [], _, _, _ => rfl
  | [], _ :: _, _, h, _ => by cases h
  | _ :: _, [], _, h, _ => by cases h
  | t :: ts, g :: gs, ht, hl, hg => by
    have ih := tok_mixed ts gs (fun u hu => ht u (List.mem_cons_of_mem _ hu)) (Nat.succ.inj hl) (fun k g' e => by
      have := hg (k + 1) g' e
      exact this)
    obtain ⟨hb, hne⟩ := hg 0 g rfl
    show tok (t ++ (g ++ mixed ts gs)) = t :: ts
    rw [tok_tok (ht t List.mem_cons_self), tok_gap g _ hb, ih]
    by_cases e : g = []
    · subst e
      rw [List.nil_append]
      cases ts with
      | nil => exact .inl (by cases gs <;> rfl)
      | cons u us =>
        cases gs with
        | nil => cases hl
        | cons g2 gs2 =>
          refine .inr ?_
          show runs t (u ++ (g2 ++ mixed us gs2)) = false
          rw [runs_head (ht u (List.mem_cons_of_mem _ List.mem_cons_self)).ne]
          cases q : runs t u with
          | false => rfl
          | true => exact absurd rfl (hne q)
    · exact .inr (runs_bl e hb)
/-! #### small things -/
theorem take_succ' {α : Type} {l : List α} {i : Nat} {x : α} (h : l[i]? = some x) : l.take (i + 1) = l.take i ++ [x] := by
  rw [List.take_add_one, h]; rfl
theorem big_ok {n : Nat} (h : n ≤ 100000) : n ≤ sizeLine := Nat.le_trans h (by decide)
theorem get_sV {ts : List (List Nat)} {i : Nat} {t : List Nat} (h : ts[i]? = some t) : (ts.map sV)[i]? = some (sV t) := by
  rw [List.getElem?_map, h]; rfl
theorem drop_at {zs : List Nat} {i c : Nat} (h : zs[i]? = some c) : zs.drop i = c :: zs.drop (i + 1) := by
  have ⟨h1, h2⟩ := List.getElem?_eq_some_iff.mp h
  rw [List.drop_eq_getElem_cons h1, h2]
theorem same_mut {H H' : Hp} {p : Addr} {o : HO} (a : Same H H') (hp : H p = none) : Same H (upd H' p o) := fun x u h => by
  rw [upd_ne (ne_of_none h hp)]; exact a x u h
theorem same_upd {H H' : Hp} {p : Addr} {o : HO} (a : Same H H') (hp : H' p = none) : Same H (upd H' p o) := fun x u h => by
  have h2 := a x u h
  rw [upd_ne (ne_of_none h2 hp)]; exact h2
theorem dec_sign (c : Nat) (z : Str) (e : Nat) (hz : z = mkS [e]) : decide (V.str ⟨#[c]⟩ = V.str z) = decide (c = e) := by
  rw [hz]
  by_cases h : c = e
  · subst h; rw [decide_eq_true rfl]; exact decide_eq_true rfl
  · rw [decide_eq_false h]
    refine decide_eq_false fun q => h ?_
    have e2 : mkS [c] = mkS [e] := V.str.inj q
    have e3 := mkS_inj e2
    injection e3
theorem tf (b : Bool) : b = true ∨ b = false := by cases b <;> simp
theorem bl_of {p : Prop} [Decidable p] {b : Bool} (h : decide p = b) : V.bl (decide p) = V.bl b := congrArg V.bl h
theorem at_mk : (("@" : Str)) = mkS [64] := by decide +kernel
/-! ### texts put together -/
theorem empty_mk : (("" : Str)) = mkS [] := by decide +kernel
theorem map_sV (zss : List (List Nat)) : zss.map sV = (zss.map mkS).map V.str := by
  rw [List.map_map]; rfl
theorem sum_len : ∀ zss : List (List Nat), ((zss.map mkS).map (·.length)).sum = zss.flatten.length
  | [] => rfl
  | z :: r => by
    rw [List.map_cons, List.map_cons, List.sum_cons, sum_len r, List.flatten_cons, List.length_append, mkS_len]
theorem joinL_nil : ∀ zss : List (List Nat), joinL [] zss = zss.flatten
  | [] => rfl
  | [z] => by show z = z ++ []; rw [List.append_nil]
  | z :: y :: r => by
    show z ++ ([] ++ joinL [] (y :: r)) = z ++ (y :: r).flatten
    rw [List.nil_append, joinL_nil (y :: r)]
theorem join_mk (zss : List (List Nat)) : Txt.join ("" : Str) (zss.map mkS) = mkS zss.flatten := by
  have h : tl (Txt.join ("" : Str) (zss.map mkS)) = zss.flatten := by
    rw [join_eq, tl_join, show (zss.map mkS).map tl = zss from (by rw [List.map_map]; exact List.map_id'' (fun _ => rfl) zss), empty_mk]
    exact joinL_nil zss
  rw [← h]; rfl
theorem flat_len {B : Nat} : ∀ {zss : List (List Nat)}, (∀ z ∈ zss, z.length ≤ B) → zss.flatten.length ≤ zss.length * B
  | [], _ => Nat.zero_le _
  | z :: r, h => by
    have ih := flat_len (zss := r) fun y hy => h y (List.mem_cons_of_mem _ hy)
    have hz := h z List.mem_cons_self
    rw [List.flatten_cons, List.length_append, List.length_cons, Nat.succ_mul]
    omega
theorem flat_one : ∀ {zss : List (List Nat)}, (∀ z ∈ zss, z.length = 1) → zss.flatten.length = zss.length
  | [], _ => rfl
  | z :: r, h => by
    rw [List.flatten_cons, List.length_append, List.length_cons, flat_one fun y hy => h y (List.mem_cons_of_mem _ hy), h z List.mem_cons_self]
    omega
theorem blank_mk : ((" " : Str)) = mkS [32] := by decide +kernel
theorem feed_mk : (("\n" : Str)) = mkS [10] := by decide +kernel
end Vf

set_option Elab.async false
set_option linter.all false
set_option maxRecDepth 100000
set_option maxHeartbeats 4000000
namespace Vf
open PySem PySem.Spec PyProof.Rows L2 TL
/-- what the list of a comprehension holds: texts -/
def PvS (R : List Nat → Prop) (d l : Addr) (H : Hp) (D : Addr) (i : Nat) (H' : Hp) : Prop :=
  ∃ zss : List (List Nat), zss.length = i ∧ (∀ zs ∈ zss, R zs) ∧ Kp d H H' ∧ DI d l H' ∧ H' D = some (.lst (zss.map sV))
theorem PvS.start {R : List Nat → Prop} {d l D : Addr} {H : Hp} (hD : DI d l H) (nD : H D = none) : PvS R d l H D 0 (upd H D (.lst [])) :=
  ⟨[], rfl, (fun _ h => nomatch h), (Kp.refl d H).new nD, hD.new nD, upd_same⟩
theorem PvS.dice {R : List Nat → Prop} {d l D : Addr} {H H1 : Hp} {i : Nat} (p : PvS R d l H D i H1) : DI d l H1 := by
  obtain ⟨_, _, _, _, h, _⟩ := p
  exact h
theorem PvS.step {R : List Nat → Prop} {d l D : Addr} {H H1 H2 : Hp} {i : Nat} {zs : List Nat} (hD : DI d l H) (nD : H D = none) (p : PvS R d l H D i H1) (hi : i < 100000) (K2 : Kp d H1 H2) (D2 : DI d l H2) (r : R zs) :
    ∃ acc, H2 D = some (.lst acc) ∧ acc.length < sizeLine ∧ PvS R d l H D (i + 1) (upd H2 D (.lst (acc ++ [sV zs]))) := by
  obtain ⟨zss, hl, hR, K1, D1, e1⟩ := p
  have n1 := hD.nd nD
  have e2 : H2 D = some (.lst (zss.map sV)) := K2 _ _ n1.1 e1
  refine ⟨_, e2, ?_, zss ++ [zs], ?_, ?_, (K1.trans K2).mut nD, D2.at n1.1 n1.2, ?_⟩
  · rw [List.length_map, hl]
    exact Nat.lt_of_lt_of_le hi (by decide)
  · rw [List.length_append, hl]; rfl
  · intro z hz
    rcases List.mem_append.mp hz with h | h
    · exact hR z h
    · rw [List.mem_singleton.mp h]; exact r
  · rw [upd_same, List.map_append]; rfl
section
variable {P : Program} {w : World} {K : PySem.W.Frag} {mg : Str → Option Value} {base : Heap}
/-! ### pick, rare -/
/-- what is picked from -/
def Row (K : PySem.W.Frag) (H : Hp) (d : Addr) (row : V) (xs : List V) : Prop :=
  (∃ a, row = .ref a ∧ a ≠ d ∧ SqL K H a xs) ∨ ∃ zs, row = sV zs ∧ xs = zs.map fun c => sV [c]
def spPick (K : PySem.W.Frag) : Sp := fun vs H Q _ => ∃ (d l : Addr) (row : V) (xs : List V), vs = [.ref d, row] ∧ DI d l H ∧ Row K H d row xs ∧ 0 < xs.length ∧ xs.length ≤ 1000 ∧
  ∀ H' v, Kp d H H' → DI d l H' → v ∈ xs → Q v H'
theorem at_draw {xs : List V} {r : Int} (h : 0 < xs.length) (h1 : (xs.length : Int) < 2 → r = 0) (h2 : 2 ≤ (xs.length : Int) → 0 ≤ r ∧ r < (xs.length : Int)) :
    ∃ (j : Nat) (hj : j < xs.length), r = (j : Int) := by
  by_cases h3 : 2 ≤ (xs.length : Int)
  · have ⟨a, b⟩ := h2 h3
    exact ⟨r.toNat, by omega, by omega⟩
  · exact ⟨0, h, by rw [h1 (by omega)]; rfl⟩
theorem ok_pick (T : Txt K mg) : FnOk P w K mg base CX0 2 T.a_law_pick T.d_law_pick ["_law_d", "_law_row"] (spPick K) := by
  have G_law_draw : FnOk P w K mg base CX0 1 T.a_law_draw T.d_law_draw ["_law_d", "_law_many"] spDraw := ok_draw T
  refine T.D_law_pick.F.ok sc_law_pick (fun vs H Q E h => ?_) (fun cdv A outer s H vs Q E hr h => ?_)
  · obtain ⟨d, l, row, xs, rfl, _⟩ := h
    rfl
  · obtain ⟨d, l, row, xs, rfl, hD, hR, h0, hx, q⟩ := h
    refine ⟨_, (pss_one (ps_ret (pe_ix ix_seq (pv 1) (pe_call G_law_draw (hr.mono (by decide)) (by rfl) T.D_law_draw.G T.D_law_draw.F.kp T.D_law_draw.B .nil pass0 (pa_cons (pv 0) (pa_cons (pe_callB call_len (by rfl) T.n_len PySem.boot_len (pa_cons (pv 1) pa_nil)) pa_nil))) (fun _ _ => rfl)))), ?_⟩
    have hlen : LenV K row H xs.length := by
      rcases hR with ⟨a, rfl, _, hS⟩ | ⟨zs, rfl, rfl⟩
      · exact .inl ⟨_, hS, rfl⟩
      · rw [List.length_map] at hx ⊢
        refine ⟨?_, (mkS_len zs).symm⟩
        rw [mkS_len]
        exact Nat.le_trans hx (by decide)
    refine ⟨_, rfl, _, rfl, _, rfl, _, _, rfl, hlen, d, l, _, rfl, hD, by omega, fun H' r k D' e1 e2 => ?_⟩
    obtain ⟨j, hj, rfl⟩ := at_draw h0 e1 e2
    rcases hR with ⟨a, rfl, nd, hS⟩ | ⟨zs, rfl, rfl⟩
    · exact .inl ⟨a, xs, _, xs[j], rfl, rfl, k.sq nd hS, atI_nat (List.getElem?_eq_getElem hj), q H' _ k D' (List.getElem_mem hj)⟩
    · have hj2 : j < zs.length := by rw [List.length_map] at hj; exact hj
      refine .inr (.inr ⟨mkS zs, _, zs[j], rfl, rfl, ?_, ?_, q H' _ k D' (List.mem_map.mpr ⟨zs[j], List.getElem_mem hj2, rfl⟩)⟩)
      · rw [mkS_len]; rw [List.length_map] at hx; exact Nat.le_trans hx (by decide)
      · rw [mkS_cps]; exact atI_nat (List.getElem?_eq_getElem hj2)
def spRare : Sp := fun vs H Q _ => ∃ (d l : Addr) (m : Int), vs = [.ref d, .int m] ∧ DI d l H ∧ m ≤ 1000000 ∧ ∀ H' b, Kp d H H' → DI d l H' → Q (.bl b) H'
theorem ok_rare (T : Txt K mg) : FnOk P w K mg base CX0 2 T.a_law_rare T.d_law_rare ["_law_d", "_law_many"] spRare := by
  have G_law_draw : FnOk P w K mg base CX0 1 T.a_law_draw T.d_law_draw ["_law_d", "_law_many"] spDraw := ok_draw T
  refine T.D_law_rare.F.ok sc_law_rare (fun vs H Q E h => ?_) (fun cdv A outer s H vs Q E hr h => ?_)
  · obtain ⟨d, l, m, rfl, _⟩ := h
    rfl
  · obtain ⟨d, l, m, rfl, hD, hm, q⟩ := h
    refine ⟨_, (pss_one (ps_ret (pe_cmpR op_eq (pe_call G_law_draw (hr.mono (by decide)) (by rfl) T.D_law_draw.G T.D_law_draw.F.kp T.D_law_draw.B .nil pass0 (pa_cons (pv 0) (pa_cons (pv 1) pa_nil))) (pe_op op_fdivN (pe_op op_mul (pv 1) pe_int) pe_int) (nomark _)))), ?_⟩
    refine ⟨_, rfl, _, rfl, d, l, m, rfl, hD, hm, fun H' r k D' e1 e2 => ?_⟩
    exact ⟨_, rfl, _, _, rfl, rfl, .inr ⟨by decide, by decide⟩, _, _, rfl, rfl, ⟨by decide, by decide⟩, rfl, q H' _ k D'⟩
/-! ### run, word -/
def spRun : Sp := fun vs H Q _ => ∃ (d l : Addr) (cs : List Nat) (n : Int), vs = [.ref d, sV cs, .int n] ∧ DI d l H ∧ 0 < cs.length ∧ cs.length ≤ 1000 ∧ 0 ≤ n ∧ n ≤ 1000 ∧
  ∀ H' zs, Kp d H H' → DI d l H' → (zs.length : Int) = n → (∀ c ∈ zs, c ∈ cs) → Q (sV zs) H'
/-- texts of one sign each -/
def One (cs zs : List Nat) : Prop := ∃ c, zs = [c] ∧ c ∈ cs
theorem one_flat {cs : List Nat} : ∀ {zss : List (List Nat)}, (∀ z ∈ zss, One cs z) → zss.flatten.length = zss.length ∧ ∀ c ∈ zss.flatten, c ∈ cs
  | [], _ => ⟨rfl, fun _ h => nomatch h⟩
  | z :: r, h => by
    obtain ⟨c, rfl, hc⟩ := h z List.mem_cons_self
    have ⟨a, b⟩ := one_flat (zss := r) fun y hy => h y (List.mem_cons_of_mem _ hy)
    rw [List.flatten_cons]
    refine ⟨by rw [List.length_append, a]; show 1 + r.length = r.length + 1; omega, fun x hx => ?_⟩
    rcases List.mem_append.mp hx with e | e
    · rw [List.mem_singleton.mp e]; exact hc
    · exact b x e
theorem pick_one {d l : Addr} {cs : List Nat} {H : Hp} {Q : VK} (hD : DI d l H) (h0 : 0 < cs.length) (hx : cs.length ≤ 1000) (q : ∀ H' zs, Kp d H H' → DI d l H' → One cs zs → Q (sV zs) H') : spPick K [.ref d, sV cs] H Q E0 := by
  refine ⟨d, l, _, _, rfl, hD, .inr ⟨cs, rfl, rfl⟩, by rw [List.length_map]; exact h0, by rw [List.length_map]; exact hx, fun H' v k D' hv => ?_⟩
  obtain ⟨c, hc, rfl⟩ := List.mem_map.mp hv
  exact q H' _ k D' ⟨c, rfl, hc⟩
def spWord : Sp := fun vs H Q _ => ∃ (d l : Addr) (lo hi : Int), vs = [.ref d, .int lo, .int hi] ∧ DI d l H ∧ 0 ≤ lo ∧ lo ≤ hi ∧ hi ≤ 900 ∧
  ∀ H' zs, Kp d H H' → DI d l H' → lo ≤ (zs.length : Int) → (zs.length : Int) ≤ hi → (∀ c ∈ zs, cW c = true) → Q (sV zs) H'
end
end Vf

set_option Elab.async false
set_option linter.all false
set_option maxRecDepth 100000
set_option maxHeartbeats 4000000
namespace Vf
open PySem PySem.Spec PyProof.Rows L2 TL
/-! ### rows of things, nets -/
def nV (w : Nat) : V := .int (w : Int)
def oV : Option Int → V
  | none => .non
  | some x => .int x
theorem oV_inj : ∀ {a b : Option Int}, oV a = oV b → a = b
  | none, none, _ => rfl
  | some _, some _, h => by rw [V.int.inj h]
  | none, some _, h => by cases h
  | some _, none, h => by cases h
theorem szN {n : Nat} (h : n < 100000) : n < sizeLine := Nat.lt_of_lt_of_le h (by decide)
theorem bTr {p : Prop} [Decidable p] (h : p) : V.bl (decide p) = V.bl true := by rw [decide_eq_true h]
theorem bFa {p : Prop} [Decidable p] (h : ¬ p) : V.bl (decide p) = V.bl false := by rw [decide_eq_false h]
theorem bNT {p : Prop} [Decidable p] (h : p) : V.bl (!decide p) = V.bl false := by rw [decide_eq_true h]; rfl
theorem bNF {p : Prop} [Decidable p] (h : ¬ p) : V.bl (!decide p) = V.bl true := by rw [decide_eq_false h]; rfl
/-- what stands in a list or tuple, thing by thing -/
def LV {α : Type} (R : V → α → Prop) (vs : List V) (rs : List α) : Prop := vs.length = rs.length ∧ ∀ (i : Nat) (r : α), rs[i]? = some r → ∃ x, vs[i]? = some x ∧ R x r
theorem LV.nil {α : Type} {R : V → α → Prop} : LV R [] [] := ⟨rfl, fun i r h => by cases i <;> cases h⟩
theorem LV.mono {α : Type} {R R' : V → α → Prop} {vs : List V} {rs : List α} (h : LV R vs rs) (k : ∀ x r, R x r → R' x r) : LV R' vs rs := ⟨h.1, fun i r e => by
  obtain ⟨x, e1, e2⟩ := h.2 i r e
  exact ⟨x, e1, k _ _ e2⟩⟩
theorem LV.snoc {α : Type} {R : V → α → Prop} {vs : List V} {rs : List α} {x : V} {r : α} (h : LV R vs rs) (hx : R x r) : LV R (vs ++ [x]) (rs ++ [r]) := by
  refine ⟨by rw [List.length_append, List.length_append, h.1]; rfl, fun i q e => ?_⟩
  by_cases hi : i < rs.length
  · rw [List.getElem?_append_left hi] at e
    obtain ⟨y, e1, e2⟩ := h.2 i q e
    exact ⟨y, by rw [List.getElem?_append_left (by rw [h.1]; exact hi)]; exact e1, e2⟩
  · rw [List.getElem?_append_right (by omega)] at e
    have e0 : i - rs.length = 0 := by
      have := (List.getElem?_eq_some_iff.mp e).1
      simp at this
      exact this
    rw [e0] at e
    have e : r = q := Option.some.inj e
    subst e
    exact ⟨x, by rw [List.getElem?_append_right (by rw [h.1]; omega), h.1, e0]; rfl, hx⟩
theorem LV.at {α : Type} {R : V → α → Prop} {vs : List V} {rs : List α} {i : Nat} {x : V} (h : LV R vs rs) (e : vs[i]? = some x) : ∃ r, rs[i]? = some r ∧ R x r := by
  have hi : i < rs.length := by rw [← h.1]; exact (List.getElem?_eq_some_iff.mp e).1
  obtain ⟨y, e1, e2⟩ := h.2 i _ (List.getElem?_eq_getElem hi)
  rw [e] at e1
  have := Option.some.inj e1
  subst this
  exact ⟨_, List.getElem?_eq_getElem hi, e2⟩
abbrev Arc := Nat × Nat × Nat
def ArcV (H : Hp) (x : V) (r : Arc) : Prop := ∃ b, x = .ref b ∧ H b = some (.tup [nV r.1, nV r.2.1, nV r.2.2])
theorem ArcV.mono {H H' : Hp} {x : V} {r : Arc} (h : ArcV H x r) (k : ∀ a xs, H a = some (.tup xs) → H' a = some (.tup xs)) : ArcV H' x r := by
  obtain ⟨b, e, f⟩ := h
  exact ⟨b, e, k _ _ f⟩
theorem kpTup {d l : Addr} {H H' : Hp} (D : DI d l H) (k : Kp d H H') : ∀ a xs, H a = some (.tup xs) → H' a = some (.tup xs) := fun a xs e => by
  obtain ⟨n, ⟨ns, h1⟩, i, b, s, c, h0, h2⟩ := D
  exact k _ _ (fun z => by rw [z, h2] at e; cases e) e
end Vf

set_option Elab.async false
set_option linter.all false
set_option maxRecDepth 100000
set_option maxHeartbeats 4000000
namespace Vf
open PySem PySem.Spec PyProof.Rows L2
/-! ### dict comprehensions whose keys are tuples of ints and texts -/
/-- one pair put into the dict at D that is being made: y the key, z the value -/
def PutT (D : Addr) (y z : V) (H : Hp) (N : Hp → Prop) : Prop :=
  ∃ (kvs : List (List Key × V)) (k : List Key) (b : Addr), y = .ref b ∧ H b = some (.tup (k.map kV)) ∧ H D = some (.dT kvs) ∧ kvs.length < sizeLine ∧ N (upd H D (.dT (putK kvs k z)))
theorem put_runs {Y : Cx} {ps : List (Addr × Obj)} {τ : L2.St} {H : Hp} {t : Shared} {D : Addr} {y z : V} {u r : Value} {N : Hp → Prop} {F : Value → Shared → Prop} (few : Y.A.units < cLine) (I : Inv Y ps τ H t) (ky : RelV y u) (kz : RelV z r) (h : PutT D y z H N) :
    wpAny (model Y.prog Y.w) Y.A (dictSet D u r) (fun _ t' => ∃ H', Inv Y ps τ H' t' ∧ N H') F t := by
  obtain ⟨kvs, k, b, ey, eb, eD, hl, hN⟩ := h
  subst ey
  obtain rfl : u = Value.ref b := ky
  obtain ⟨h1, h2, xs, rel, dd⟩ := dt_of I.hok eD
  have lx : xs.length ≤ sizeLine := (Paired.length rel) ▸ h1
  have lp : (putK kvs k z).length ≤ sizeLine := Nat.le_trans (length_putK kvs k z) hl
  refine wpAny_dictSet_heap (hsz := lx) few (key_of I.hok eb) dd fun h' d' same => ⟨_, ?_, hN⟩
  obtain ⟨o, es, ep, g1, g2, g3, g4, _, g5⟩ := d'
  refine d_write I (eD ▸ True.intro) same ⟨o, g1⟩ ⟨lp, h2, _, (rel.put k eb kz).keeps fun c ys ec => ?_, o, es, ep, g1, g2, g3, g4, g5⟩
  exact (upd_ne (ne_of ec eD (fun z => nomatch z))).trans ec
section
variable {X : Cx}
/-- {k: v for target in iter if ..}, keys tuples: D the new dict -/
def tDcT (wi : TI) (g : TG) (tt : TT) (tk tv : TE) (own : List Nat) : TE := fun σ H Q => wi σ H fun J Ha => ∀ D, Ha D = none →
  ∃ W : Nat → Nat → Hp → Prop, (∃ m, W 0 m (upd Ha D (.dT []))) ∧ ∀ i m Hb, W i m Hb → (J.stop i Hb ∧ Q (.ref D) Hb) ∨
    (J.go i Hb ∧ ∃ N : Hp → Prop, (∀ Hc, N Hc → ∃ m', m' < m ∧ W (i + 1) m' Hc) ∧ ∀ x Hc, J.yld i Hb x Hc →
      g x (wipe σ own) Hc fun σ2 H2 => wipe σ2 own = wipe σ own ∧ tt σ2 H2 fun b H3 => if b = true then tk σ2 H3 fun y H4 => tv σ2 H4 fun z H5 => PutT D y z H5 N else N H3)
/-- the block's promise of each part, wherever the block's own room comes to stand -/
abbrev InBlk (X : Cx) (scope : Scope) (R : Cx → Prop) : Prop := ∀ (s : Shared) (H : Hp) (C : Addr) (cl : List (Str × Addr)) (fp : List Addr), R (X.blk s H scope (compEnvC scope cl C X.env) fp)
theorem dcT_core {pins : List (Addr × Obj)} {s : Shared} {σ : L2.St} {H : Hp} {Q : VK} {kx vx tg iter : Expr} {ifs : List Expr} {scope : Scope} {own : List (Str × Nat)} {pos pos' : Pos} {wi : TI} {g : TG} {tt : TT} {tk tv : TE} {use : Option (Value → Sem Unit)} {Qf : Value → Shared → Prop}
    (calm : X.calm = true) (few : X.A.units < cLine) (nd : X.N.Nodup) (I : Inv X pins σ H s) (pi : PI X tg iter wi) (bk : BlkOk X.N X.env.scope scope own)
    (pg : InBlk X scope fun Y => PG Y tg g) (pt : InBlk X scope fun Y => PTs Y ifs tt) (pk : InBlk X scope fun Y => PE Y kx tk) (pv : InBlk X scope fun Y => PE Y vx tv) (fold : ∀ x, foldedSetIterable iter X.env x = pure x)
    (h : tDcT wi g tt tk tv (own.map (·.2)) σ H Q)
    (leave : ∀ (D C : Addr) t ms H', Inv X pins σ H' t → Q (.ref D) H' → t.heap.Ns C ms → FpOk X pins H' C → compPost (model X.prog X.w) X.A X.xe use Qf (.ref D) C (.ok .next) t) :
    wpAny (model X.prog X.w) X.A (comprehension (.DictComp kx vx [⟨tg, iter, ifs, 0⟩] scope pos) scope X.env pos' newDict false (eval iter X.env) use) Qf X.xe s := by
  have has : ∀ y ∈ scope.names, y.2 = .free → ∃ c, X.env.cells.lookup y.1 = some c := by
    intro y hy e
    exact (bk.free y hy e).elim (fun k => I.ok.has _ (.inl k)) (fun k => I.ok.has _ (.inr k))
  refine wpAny_comprehension_free (use := use) rfl fold (closure_ok has) bk.kind (fun y hy e => (bk.uniq y hy).trans (congrArg some e)) ?_
  refine thn (pi.run pins s σ H _ I h) fun v0 s1 w1 => thn w1 fun v1 s2 w2 => ?_
  obtain ⟨it, fp, tn, J, Ha, rfl, Ia, T, st, fs, q⟩ := w2
  refine wpAny_newObj_type (newEnv_comp ?_)
  -- the new dict stands at D
  obtain ⟨D, eD⟩ : ∃ D, D = s2.heap.objs.size := ⟨_, rfl⟩
  obtain ⟨W, ⟨m0, w0⟩, turn⟩ := q D (Ia.hok.fresh (Nat.le_of_eq eD.symm))
  obtain ⟨s3, es3⟩ : ∃ s3 : Shared, s3 = { s2 with heap := s2.heap.push { cls := .type "dict", data := .dict #[] } } := ⟨_, rfl⟩
  have eh : s3.heap = s2.heap.push { cls := .type "dict", data := .dict #[] } := by rw [es3]
  rw [← es3, ← eD]
  have Ib : Inv X pins σ (upd Ha D (.dT [])) s3 := by
    rw [es3, eD]
    exact Ia.laid (t' := s2.toks) (fun b o e => Heap.get?_push_of_some _ e) (Nat.le_refl _) (dt_empty s2.heap Ia.big)
  have lt : ∀ b ∈ fp, b < D := fun b hb => by
    have ⟨o, e, _⟩ := T.obj _ _ st b hb
    rw [eD]; exact Heap.lt_size e
  have fd : ∀ b ∈ fp, (upd Ha D (.dT [])) b = none := fun b hb => (upd_ne (Nat.ne_of_lt (lt b hb))).trans (fs b hb).1
  have f3 : ∀ b ∈ fp, FpOk X pins (upd Ha D (.dT [])) b ∧ b < s3.heap.objs.size := fun b hb =>
    ⟨⟨fd b hb, (fs b hb).2⟩, by rw [eh, Heap.size_push, ← eD]; exact Nat.lt_succ_of_lt (lt b hb)⟩
  have st3 : tn 0 s3.heap := T.keep _ _ _ st fun b _ o e => by rw [eh]; exact Heap.get?_push_of_some _ e
  have Ic := block_start Ib bk nd f3
  have G := pg s3 (upd Ha D (.dT [])) s3.heap.objs.size (cellsFrom (s3.heap.objs.size + 1) scope.names (cloFrom X.env.cells scope.names [])) fp
  have S := pt s3 (upd Ha D (.dT [])) s3.heap.objs.size (cellsFrom (s3.heap.objs.size + 1) scope.names (cloFrom X.env.cells scope.names [])) fp
  have Kx := pk s3 (upd Ha D (.dT [])) s3.heap.objs.size (cellsFrom (s3.heap.objs.size + 1) scope.names (cloFrom X.env.cells scope.names [])) fp
  have Vx := pv s3 (upd Ha D (.dT [])) s3.heap.objs.size (cellsFrom (s3.heap.objs.size + 1) scope.names (cloFrom X.env.cells scope.names [])) fp
  obtain ⟨ce, ece⟩ : ∃ ce, ce = compEnvC scope (cellsFrom (s3.heap.objs.size + 1) scope.names (cloFrom X.env.cells scope.names [])) s3.heap.objs.size X.env := ⟨_, rfl⟩
  have cl : ce.locals = s3.heap.objs.size := by rw [ece]; rfl
  obtain ⟨s4, es4⟩ : ∃ s4 : Shared, s4 = { s3 with heap := pushCells (s3.heap.push { cls := .type "dict", data := .dict #[] }) scope.names } := ⟨_, rfl⟩
  rw [← ece] at Ic G S Kx Vx
  rw [← es4] at Ic
  have st4 : tn 0 s4.heap := T.keep _ _ _ st3 fun b _ o e => by rw [es4]; exact pushCells_keeps _ _ _ _ (Heap.get?_push_of_some _ e)
  have pinned : ∀ {τ : L2.St} {H' : Hp} {t : Shared}, Inv (X.blk s3 (upd Ha D (.dT [])) scope ce fp) [] τ H' t → (∀ b ∈ fp, H' b = none) → ∀ b ∈ fp, FpOk (X.blk s3 (upd Ha D (.dT [])) scope ce fp) [] H' b := by
    intro τ H' t I' free b hb
    have e1 := I'.ok.exf b hb
    exact ⟨free b hb, e1.1, I'.ok.exfs b hb, .inl hb, fun x c e => e1.2 x c e, fun p hp => by cases hp⟩
  -- what the loop keeps at its turn number i
  let Keep : Nat → Shared → Prop := fun n t => ∃ i H', Inv (X.blk s3 (upd Ha D (.dT [])) scope ce fp) [] (wipe σ (own.map (·.2))) H' t ∧ tn i t.heap ∧ (∀ b ∈ fp, H' b = none) ∧ W i n H'
  have runs : codeAny (model X.prog X.w) X.A (.compLoop (.DictComp kx vx [⟨tg, iter, ifs, 0⟩] scope pos) 0 (.ref it) (.ref D) ce)
      (compPost (model X.prog X.w) X.A X.xe use Qf (.ref D) s3.heap.objs.size) s4 := by
    refine compLoop_anyD Keep ?_ m0 ⟨0, _, Ic, st4, fd, w0⟩
    intro n t1 ⟨i, Hb, I1, z1, free, w1⟩
    rcases turn i n Hb w1 with ⟨stop, hQ⟩ | ⟨go, N, less, step⟩
    · -- no further thing: back in the def
      refine thnF (T.done (X.blk s3 (upd Ha D (.dT [])) scope ce fp) rfl rfl rfl calm i [] t1 _ Hb (fun _ _ => False) I1 (pinned I1 free) z1 stop) fun r t2 ⟨er, I2⟩ => ?_
      subst er
      have Iz : Inv X pins σ Hb t2 := Ib.call' (ch := fp) I2.os I2.base I2.hok I2.bare fun b hb =>
        have f := (f3 b hb).1.2
        ⟨f.2.2.1, f.1, f.2.2.2.1, f.2.2.2.2⟩
      obtain ⟨ms, hns, _⟩ := I2.loc
      have hns : t2.heap.Ns ce.locals ms := hns
      have nl : Hb ce.locals = none := I2.free
      rw [cl] at hns nl
      exact leave D _ t2 ms Hb Iz hQ hns (Ib.fpOk (Nat.le_refl _) nl)
    · refine thnF (T.item (X.blk s3 (upd Ha D (.dT [])) scope ce fp) rfl rfl rfl calm i [] t1 _ Hb (fun _ _ => False) I1 (pinned I1 free) z1 go) fun r t2 ⟨u, er, a2⟩ => ?_
      subst er
      refine thnF a2 fun _ t3 ⟨x, Hc, I3, rx, y3, z3, free3⟩ => ?_
      refine thnF (G.run _ t3 _ Hc x u _ (I3.pinned (pinned I3 free3) (T.obj _ _ z3)) rx (step x Hc y3)) fun _ t4 ⟨σ2, H2, I4, ew, q4⟩ => ?_
      refine thnF (S.run _ t4 σ2 H2 _ I4 q4) fun b t5 ⟨H3, I5, q5⟩ => ?_
      -- how a turn ends, in the room of the block
      have close : ∀ {t : Shared} {H' : Hp}, Inv (X.blk s3 (upd Ha D (.dT [])) scope ce fp) ([] ++ pinsAt fp t3.heap) σ2 H' t → N H' → ∃ m, m < n ∧ Keep m t := by
        intro t H' I' hN
        obtain ⟨m', hm, w'⟩ := less H' hN
        have still : ∀ b ∈ fp, ∀ o, t3.heap.get? b = some o → t.heap.get? b = some o ∧ H' b = none := by
          intro b hb o e
          have p := I'.pin (b, o) (List.mem_append_right _ (List.mem_append_right _ (mem_pinsAt hb e)))
          exact ⟨p.1, p.2.1⟩
        have len : (wipe σ (own.map (·.2))).length = σ2.length := by rw [← ew]; exact wipe_length _ _
        refine ⟨m', hm, i + 1, H', (I'.unpinned (pins := [])).weak len fun j v e => ?_, T.keep _ _ _ z3 fun b hb o e => (still b hb o e).1, fun b hb => ?_, w'⟩
        · rw [← ew] at e; exact (wipe_some e).1
        · have ⟨o, e, _⟩ := T.obj _ _ z3 b hb
          exact (still b hb o e).2
      cases b with
      | false => exact close I5 q5
      | true =>
        refine thnF (Kx.run _ t5 σ2 H3 _ I5 q5) fun ku t6 ⟨y, H4, I6, ry, q6⟩ => ?_
        refine thnF (Vx.run _ t6 σ2 H4 _ I6 q6) fun vu t7 ⟨z, H5, I7, rz, q7⟩ => ?_
        exact thn (put_runs (Y := X.blk s3 (upd Ha D (.dT [])) scope ce fp) few I7 ry rz q7) fun _ t8 ⟨H6, I8, n8⟩ => close I8 n8
  have whole := codeAny_compStart_dict runs (T.self X.A 0 _ _ _ st4 runs)
  rw [ece, es4] at whole
  exact whole
/-- as a value -/
theorem pe_dcT {kx vx tg iter : Expr} {ifs : List Expr} {scope : Scope} {own : List (Str × Nat)} {pos : Pos} {wi : TI} {g : TG} {tt : TT} {tk tv : TE} (calm : X.calm = true) (few : X.A.units < cLine) (nd : X.N.Nodup) (pi : PI X tg iter wi) (bk : BlkOk X.N X.env.scope scope own)
    (pg : InBlk X scope fun Y => PG Y tg g) (pt : InBlk X scope fun Y => PTs Y ifs tt) (pk : InBlk X scope fun Y => PE Y kx tk) (pv : InBlk X scope fun Y => PE Y vx tv) (fold : ∀ x, foldedSetIterable iter X.env x = pure x := by intro _; rfl) :
    PE X (.DictComp kx vx [⟨tg, iter, ifs, 0⟩] scope pos) (tDcT wi g tt tk tv (own.map (·.2))) := by
  constructor
  intro pins s σ H Q I h
  rw [arm_eval_DictComp]
  refine dcT_core calm few nd I pi bk pg pt pk pv fold h fun D C t ms H' I' hQ hns f => ⟨ms, hns, fun h2 sb => ?_⟩
  exact ⟨.ref D, H', I'.turned (t' := t.toks) (fun b o hb e => (sb.2 b hb).trans e) f.1 f.2.1 f.2.2.2.1 f.2.2.2.2.1 f.2.2.2.2.2, rfl, hQ⟩
/-- name = {..} on one line, the name a local that no inner block reads -/
theorem ps_setDcT {i : Nat} {y : Str} {py : Pos} {kx vx tg iter : Expr} {ifs : List Expr} {scope : Scope} {own : List (Str × Nat)} {pos spos : Pos} {wi : TI} {g : TG} {tt : TT} {tk tv : TE} (calm : X.calm = true) (few : X.A.units < cLine) (nd : X.N.Nodup) (iy : X.N[i]? = some y) (ly : X.env.scope.names.lookup y = some .local)
    (sw : swapsWith (.DictComp kx vx [⟨tg, iter, ifs, 0⟩] scope pos) (some (.Name y py)) spos.line X.env = pure true) (pi : PI X tg iter wi) (bk : BlkOk X.N X.env.scope scope own)
    (pg : InBlk X scope fun Y => PG Y tg g) (pt : InBlk X scope fun Y => PTs Y ifs tt) (pk : InBlk X scope fun Y => PE Y kx tk) (pv : InBlk X scope fun Y => PE Y vx tv) (fold : ∀ x, foldedSetIterable iter X.env x = pure x := by intro _; rfl) :
    PS X (.Assign [.Name y py] (.DictComp kx vx [⟨tg, iter, ifs, 0⟩] scope pos) spos) (tAsg (tDcT wi g tt tk tv (own.map (·.2))) (gName i)) := by
  constructor
  intro pins s σ H E I h
  have h : tDcT wi g tt tk tv (own.map (·.2)) σ H (fun x H1 => gName i x σ H1 E.nx) := h
  rw [exec_Assign_Name_used _ _ _ _ sw]
  refine wpAny_bind (wpAny_standAt (wpAny_bind ?_))
  have main := dcT_core (pos := pos) (pos' := firstIterPos [⟨tg, iter, ifs, 0⟩] pos) (use := some (assign (.Name y py) X.env)) (Qf := fun _ t => SP X pins E .next t) calm few nd I pi bk pg pt pk pv fold h ?_
  · exact wpAny_bind (thn main fun _ t hq => wpAny_pure (wpAny_pure hq))
  · intro D C t ms H' I' hQ hns f
    show wpAny (model X.prog X.w) X.A (assign (.Name y py) X.env (.ref D)) _ _ _
    refine wpAny_assign_Name (store_ok2 (v := V.ref D) I' nd iy (.inl ly) rfl (fun t2 I2 ⟨a, sb, ha⟩ => ?_) (.inr ly))
    have ne : C ≠ a := ha.elim (fun z => z ▸ f.2.1) fun z e => f.2.2.2.2.1 y a z e.symm
    refine ⟨ms, hns.sameBut sb ne, fun h3 sb3 => ⟨_, H', ?_, hQ⟩⟩
    exact I2.turned (t' := t2.toks) (fun b o hb e => (sb3.2 b hb).trans e) f.1 f.2.1 f.2.2.2.1 f.2.2.2.2.1 f.2.2.2.2.2
theorem sw_dict {kx vx : Expr} {gs : List Comprehension} {scope : Scope} {pos py : Pos} {y : Str} {l : Nat} {env : Env} (fn : env.scope.kind = .function) (loc : env.scope.names.lookup y = some .local) (line : (py.line == pos.line) = true)
    (none : (scope.names.any fun (n, k) => n == y && (k == .local || k == .cell)) = false) : swapsWith (.DictComp kx vx gs scope pos) (some (.Name y py)) l env = pure true := by
  have k1 : env.kindOf y = some .local := loc
  have k2 : env.blockKind = .function := by unfold Env.blockKind; rw [fn]; rfl
  unfold swapsWith
  simp only [k1, k2, none, line, Expr.pos]
  rfl
end
/-- over any walk: Pv by the turn and the heap -/
theorem dcT_it {J : It} {n : Nat} {G : Hp → Prop} {Y : Nat → Hp → V → Hp → Prop} (w : Walk J n G Y) {g : TG} {tt : TT} {tk tv : TE} {own : List Nat} {σ : L2.St} {Ha : Hp} {D : Addr} {Qd : Hp → Prop} (Pv : Nat → Hp → Prop) (start : Pv 0 (upd Ha D (.dT []))) (stays : ∀ i H, i ≤ n → Pv i H → G H)
    (turn : ∀ i x H H', i < n → Pv i H → Y i H x H' → g x (wipe σ own) H' fun σ2 H2 => wipe σ2 own = wipe σ own ∧ tt σ2 H2 fun b H3 => if b = true then tk σ2 H3 fun y H4 => tv σ2 H4 fun z H5 => PutT D y z H5 (Pv (i + 1)) else Pv (i + 1) H3)
    (after : ∀ H, Pv n H → Qd H) :
    ∃ W : Nat → Nat → Hp → Prop, (∃ m, W 0 m (upd Ha D (.dT []))) ∧ ∀ i m Hb, W i m Hb → (J.stop i Hb ∧ Qd Hb) ∨
      (J.go i Hb ∧ ∃ N : Hp → Prop, (∀ Hc, N Hc → ∃ m', m' < m ∧ W (i + 1) m' Hc) ∧ ∀ x Hc, J.yld i Hb x Hc →
        g x (wipe σ own) Hc fun σ2 H2 => wipe σ2 own = wipe σ own ∧ tt σ2 H2 fun b H3 => if b = true then tk σ2 H3 fun y H4 => tv σ2 H4 fun z H5 => PutT D y z H5 N else N H3) := by
  refine ⟨fun i m H => m + i = n ∧ Pv i H, ⟨n, by omega, start⟩, fun i m Hb h => ?_⟩
  have ⟨e, p⟩ := h
  have ok := stays i Hb (by omega) p
  rcases Nat.lt_or_ge i n with lt | ge
  · refine .inr ⟨w.goes i Hb lt ok, Pv (i + 1), fun Hc q => ⟨m - 1, by omega, by omega, q⟩, fun x Hc y => turn i x Hb Hc lt p (w.yields i Hb x Hc lt ok y)⟩
  · obtain rfl : i = n := by omega
    exact .inl ⟨w.stops Hb ok, after Hb p⟩
end Vf

set_option Elab.async false
set_option linter.all false
set_option maxRecDepth 100000
set_option maxHeartbeats 4000000
namespace Vf
open PySem PySem.Spec PyProof.Rows L2 TL
/-! ### the greatest of a row -/
def mx : List Nat → Option Nat
  | [] => none
  | x :: r => some (max x ((mx r).getD 0))
theorem mx_nil {l : List Nat} : mx l = none ↔ l = [] := by
  cases l with
  | nil => exact ⟨fun _ => rfl, fun _ => rfl⟩
  | cons x r => exact ⟨(fun h => by cases h), (fun h => by cases h)⟩
theorem mx_spec : ∀ {l : List Nat} {m : Nat}, mx l = some m → m ∈ l ∧ ∀ x ∈ l, x ≤ m
  | [], _, h => by cases h
  | x :: r, m, h => by
    have h0 : max x ((mx r).getD 0) = m := Option.some.inj h
    clear h
    cases hr : mx r with
    | none =>
      rw [hr] at h0
      have e := mx_nil.mp hr
      subst e
      have h : max x 0 = m := h0
      clear h0
      rw [Nat.max_zero] at h
      subst h
      exact ⟨List.mem_cons_self, fun y hy => by rw [List.mem_singleton.mp hy]; exact Nat.le_refl _⟩
    | some k =>
      rw [hr] at h0
      have h : max x k = m := h0
      have ⟨h1, h2⟩ := mx_spec hr
      refine ⟨?_, fun y hy => ?_⟩
      · by_cases c : x ≤ k
        · rw [Nat.max_eq_right c] at h; rw [← h]; exact List.mem_cons_of_mem _ h1
        · rw [Nat.max_eq_left (by omega)] at h; rw [← h]; exact List.mem_cons_self
      · rcases List.mem_cons.mp hy with e | e
        · rw [e, ← h]; exact Nat.le_max_left _ _
        · have := h2 y e
          rw [← h]; exact Nat.le_trans this (Nat.le_max_right _ _)
theorem mx_of {l : List Nat} {m : Nat} (h1 : m ∈ l) (h2 : ∀ x ∈ l, x ≤ m) : mx l = some m := by
  cases h : mx l with
  | none => rw [mx_nil.mp h] at h1; cases h1
  | some k =>
    have ⟨a, b⟩ := mx_spec h
    have := h2 k a
    have := b m h1
    rw [show k = m by omega]
theorem mx_same {l l' : List Nat} (h : ∀ x, x ∈ l ↔ x ∈ l') : mx l = mx l' := by
  cases e : mx l with
  | none =>
    have e := mx_nil.mp e
    subst e
    cases l' with
    | nil => rfl
    | cons x r => exact absurd ((h x).mpr List.mem_cons_self) (by simp)
  | some m =>
    have ⟨a, b⟩ := mx_spec e
    exact (mx_of ((h m).mp a) fun x hx => b x ((h x).mpr hx)).symm
theorem mx_snoc (l : List Nat) (x : Nat) : mx (l ++ [x]) = some (max ((mx l).getD 0) x) := by
  cases e : mx l with
  | none => rw [mx_nil.mp e]; show some (max x 0) = some (max 0 x); rw [Nat.max_comm]
  | some m =>
    have ⟨a, b⟩ := mx_spec e
    show _ = some (max m x)
    refine mx_of ?_ fun y hy => ?_
    · by_cases c : m ≤ x
      · rw [Nat.max_eq_right c]; exact List.mem_append_right _ (List.mem_singleton.mpr rfl)
      · rw [Nat.max_eq_left (by omega)]; exact List.mem_append_left _ a
    · rcases List.mem_append.mp hy with h | h
      · exact Nat.le_trans (b y h) (Nat.le_max_left _ _)
      · rw [List.mem_singleton.mp h]; exact Nat.le_max_right _ _
/-! ### demands -/
def msR (p q : Nat) (r : Arc) : Option Nat := if r.1 = p ∧ r.1 + r.2.1 = q then some (r.2.2 + 1) else none
def ms (cs : List Arc) (p q : Nat) : List Nat := cs.filterMap (msR p q)
def msI (p q : Int) (r : Arc) : Option Nat := if (r.1 : Int) = p ∧ (r.1 : Int) + (r.2.1 : Int) = q then some (r.2.2 + 1) else none
def demI (cs : List Arc) (p q : Int) : Option Nat := mx (cs.filterMap (msI p q) ++ if q = p + 1 then [1] else [])
def demT (n : Nat) (cs : List Arc) (p q : Int) : Option Nat := mx ((if q = p + 1 ∧ 0 ≤ p ∧ p < (n : Int) then [1] else []) ++ cs.filterMap (msI p q))
def dem (cs : List Arc) (p q : Nat) : Option Nat := mx (ms cs p q ++ if q = p + 1 then [1] else [])
theorem msI_snoc (cs : List Arc) (r : Arc) (p q : Int) : (cs ++ [r]).filterMap (msI p q) = cs.filterMap (msI p q) ++ (msI p q r).toList := by
  rw [List.filterMap_append]
  cases h : msI p q r with
  | none => rw [List.filterMap_cons_none h]; rfl
  | some x => rw [List.filterMap_cons_some h]; rfl
theorem demI_nat (cs : List Arc) (p q : Nat) : demI cs (p : Int) (q : Int) = dem cs p q := by
  unfold demI dem ms
  have e1 : msI (p : Int) (q : Int) = msR p q := by
    funext r
    unfold msI msR
    by_cases c : r.1 = p ∧ r.1 + r.2.1 = q
    · rw [if_pos c, if_pos (by omega)]
    · rw [if_neg c, if_neg (by omega)]
  rw [e1]
  by_cases c : q = p + 1
  · rw [if_pos c, if_pos (by omega)]
  · rw [if_neg c, if_neg (by omega)]
theorem demT_int {n : Nat} {cs : List Arc} {p q : Int} (h0 : 0 ≤ p) (h : p < (n : Int)) : demT n cs p q = demI cs p q := by
  refine mx_same fun x => ?_
  have e : (q = p + 1 ∧ 0 ≤ p ∧ p < (n : Int)) ↔ q = p + 1 := ⟨fun z => z.1, fun z => ⟨z, h0, h⟩⟩
  rw [List.mem_append, List.mem_append]
  by_cases c : q = p + 1
  · rw [if_pos (e.mpr c), if_pos c]; exact Or.comm
  · rw [if_neg (fun z => c z.1), if_neg c]; exact Or.comm
theorem demT_eq {n : Nat} {cs : List Arc} {p q : Nat} (h : p < n) : demT n cs (p : Int) (q : Int) = dem cs p q := by
  rw [demT_int (by omega) (by omega), demI_nat]
theorem demT_snoc (n : Nat) (cs : List Arc) (r : Arc) (p q : Int) : demT n (cs ++ [r]) p q = if (r.1 : Int) = p ∧ (r.1 : Int) + (r.2.1 : Int) = q then some (max ((demT n cs p q).getD 1) (r.2.2 + 1)) else demT n cs p q := by
  by_cases c : (r.1 : Int) = p ∧ (r.1 : Int) + (r.2.1 : Int) = q
  · rw [if_pos c]
    have e : msI p q r = some (r.2.2 + 1) := if_pos c
    unfold demT
    rw [msI_snoc, e]
    show mx (_ ++ (cs.filterMap (msI p q) ++ [r.2.2 + 1])) = _
    rw [← List.append_assoc, mx_snoc]
    cases mx ((if q = p + 1 ∧ 0 ≤ p ∧ p < (n : Int) then [1] else []) ++ cs.filterMap (msI p q)) with
    | none => show some (max 0 (r.2.2 + 1)) = some (max 1 (r.2.2 + 1)); rw [Nat.max_eq_right (by omega), Nat.max_eq_right (by omega)]
    | some m => rfl
  · rw [if_neg c]
    have e : msI p q r = none := if_neg c
    unfold demT
    rw [msI_snoc, e]
    show mx (_ ++ (cs.filterMap (msI p q) ++ [])) = _
    rw [List.append_nil]
theorem dem_next (cs : List Arc) (p : Nat) : ∃ e, dem cs p (p + 1) = some e := by
  cases h : dem cs p (p + 1) with
  | some e => exact ⟨e, rfl⟩
  | none =>
    unfold dem at h
    rw [if_pos rfl] at h
    exact absurd (mx_nil.mp h) (by simp)
theorem dem_same {cs cs' : List Arc} (h : ∀ r, r ∈ cs ↔ r ∈ cs') (p q : Nat) : dem cs p q = dem cs' p q := by
  refine mx_same fun x => ?_
  unfold ms
  rw [List.mem_append, List.mem_append, List.mem_filterMap, List.mem_filterMap]
  constructor
  · rintro (⟨r, hr, e⟩ | e)
    · exact .inl ⟨r, (h r).mp hr, e⟩
    · exact .inr e
  · rintro (⟨r, hr, e⟩ | e)
    · exact .inl ⟨r, (h r).mpr hr, e⟩
    · exact .inr e
/-! ### boundaries -/
/-- what a boundary n can be by the ones ahead -/
def cand (cs : List Arc) (bs : List Nat) (n : Nat) : Nat → Option Nat := fun a => (dem cs a n).map fun e => bs.getD a 0 + e
def bl (cs : List Arc) : Nat → List Nat
  | 0 => [0]
  | n + 1 => bl cs n ++ [(mx ((List.range (n + 1)).filterMap (cand cs (bl cs n) (n + 1)))).getD 0]
theorem bl_len (cs : List Arc) : ∀ n, (bl cs n).length = n + 1
  | 0 => rfl
  | n + 1 => by show (bl cs n ++ [_]).length = _; rw [List.length_append, bl_len cs n]; rfl
def smRow (cs : List Arc) (ss : List (List Nat)) (n : Nat) : Nat → List Nat := fun a => match dem cs a n with
  | none => []
  | some e => (ss.getD a []).map (· + e)
def sm (cs : List Arc) : Nat → List (List Nat)
  | 0 => [[0]]
  | n + 1 => sm cs n ++ [(List.range (n + 1)).flatMap (smRow cs (sm cs n) (n + 1))]
theorem sm_len (cs : List Arc) : ∀ n, (sm cs n).length = n + 1
  | 0 => rfl
  | n + 1 => by show (sm cs n ++ [_]).length = _; rw [List.length_append, sm_len cs n]; rfl
theorem cand_ne {cs : List Arc} {bs : List Nat} (n : Nat) : ∃ v, mx ((List.range (n + 1)).filterMap (cand cs bs (n + 1))) = some v := by
  cases h : mx ((List.range (n + 1)).filterMap (cand cs bs (n + 1))) with
  | some v => exact ⟨v, rfl⟩
  | none =>
    obtain ⟨e, he⟩ := dem_next cs n
    have : bs.getD n 0 + e ∈ (List.range (n + 1)).filterMap (cand cs bs (n + 1)) := List.mem_filterMap.mpr ⟨n, List.mem_range.mpr (Nat.lt_succ_self n), by unfold cand; rw [he]; rfl⟩
    rw [mx_nil.mp h] at this
    cases this
theorem getD_left {α : Type} {l m : List α} {d : α} {i : Nat} (h : i < l.length) : (l ++ m).getD i d = l.getD i d := by
  rw [List.getD_eq_getElem?_getD, List.getD_eq_getElem?_getD, List.getElem?_append_left h]
theorem getD_last {α : Type} {l : List α} {x d : α} {i : Nat} (h : i = l.length) : (l ++ [x]).getD i d = x := by
  subst h
  rw [List.getD_eq_getElem?_getD, List.getElem?_append_right (Nat.le_refl _), Nat.sub_self]; rfl
theorem sm_bl (cs : List Arc) : ∀ n i, i ≤ n → mx ((sm cs n).getD i []) = some ((bl cs n).getD i 0)
  | 0, i, h => by
    have : i = 0 := by omega
    subst this
    rfl
  | n + 1, i, h => by
    by_cases hi : i ≤ n
    · show mx ((sm cs n ++ [_]).getD i []) = some ((bl cs n ++ [_]).getD i 0)
      rw [getD_left (by rw [sm_len]; omega), getD_left (by rw [bl_len]; omega)]
      exact sm_bl cs n i hi
    · have : i = n + 1 := by omega
      subst this
      show mx ((sm cs n ++ [_]).getD (n + 1) []) = some ((bl cs n ++ [_]).getD (n + 1) 0)
      rw [getD_last (by rw [sm_len]), getD_last (by rw [bl_len])]
      obtain ⟨v, hv⟩ := cand_ne (cs := cs) (bs := bl cs n) n
      rw [hv]
      show _ = some v
      have ⟨h1, h2⟩ := mx_spec hv
      obtain ⟨a, ha, ea⟩ := List.mem_filterMap.mp h1
      refine mx_of ?_ ?_
      · rw [List.mem_flatMap]
        refine ⟨a, ha, ?_⟩
        have ha := List.mem_range.mp ha
        unfold cand at ea
        unfold smRow
        cases hd : dem cs a (n + 1) with
        | none => rw [hd] at ea; cases ea
        | some e =>
          rw [hd] at ea
          have ea : (bl cs n).getD a 0 + e = v := Option.some.inj ea
          have ⟨g1, _⟩ := mx_spec (sm_bl cs n a (by omega))
          exact List.mem_map.mpr ⟨_, g1, ea⟩
      · intro x hx
        obtain ⟨b, hb, hx⟩ := List.mem_flatMap.mp hx
        have hb2 := List.mem_range.mp hb
        unfold smRow at hx
        cases hd : dem cs b (n + 1) with
        | none => rw [hd] at hx; cases hx
        | some e =>
          rw [hd] at hx
          obtain ⟨y, hy, rfl⟩ := List.mem_map.mp hx
          have ⟨_, g2⟩ := mx_spec (sm_bl cs n b (by omega))
          have := g2 y hy
          have : (bl cs n).getD b 0 + e ≤ v := h2 _ (List.mem_filterMap.mpr ⟨b, hb, by unfold cand; rw [hd]; rfl⟩)
          show y + e ≤ v
          omega
theorem bl_same {cs cs' : List Arc} (h : ∀ r, r ∈ cs ↔ r ∈ cs') : ∀ n, bl cs n = bl cs' n
  | 0 => rfl
  | n + 1 => by
    show bl cs n ++ [(mx ((List.range (n + 1)).filterMap (cand cs (bl cs n) (n + 1)))).getD 0] = bl cs' n ++ [(mx ((List.range (n + 1)).filterMap (cand cs' (bl cs' n) (n + 1)))).getD 0]
    have e : cand cs (bl cs n) (n + 1) = cand cs' (bl cs' n) (n + 1) := by
      funext a
      unfold cand
      rw [bl_same h n, dem_same h]
    rw [e, bl_same h n]
/-- how long the rows get -/
theorem fm_size {cs : List Arc} {n : Nat} (h : ∀ i, i ≤ n → ((sm cs n).getD i []).length ≤ 2 ^ i) : ∀ m, m ≤ n + 1 → ((List.range m).flatMap (smRow cs (sm cs n) (n + 1))).length + 1 ≤ 2 ^ m := by
  intro m
  induction m with
  | zero => intro _; exact Nat.le_refl 1
  | succ m ih =>
    intro hm
    have h1 := ih (by omega)
    rw [List.range_succ, List.flatMap_append, List.length_append]
    have h2 : (([m] : List Nat).flatMap (smRow cs (sm cs n) (n + 1))).length ≤ 2 ^ m := by
      rw [List.flatMap_singleton]
      unfold smRow
      cases dem cs m (n + 1) with
      | none => exact Nat.zero_le _
      | some e =>
        show (((sm cs n).getD m []).map (· + e)).length ≤ _
        rw [List.length_map]
        exact h m (by omega)
    rw [Nat.pow_succ]
    omega
theorem sm_size (cs : List Arc) : ∀ n i, i ≤ n → ((sm cs n).getD i []).length ≤ 2 ^ i
  | 0, i, h => by
    have : i = 0 := by omega
    subst this
    exact Nat.le_refl 1
  | n + 1, i, h => by
    by_cases hi : i ≤ n
    · show ((sm cs n ++ [_]).getD i []).length ≤ _
      rw [getD_left (by rw [sm_len]; omega)]
      exact sm_size cs n i hi
    · have : i = n + 1 := by omega
      subst this
      show ((sm cs n ++ [_]).getD (n + 1) []).length ≤ _
      rw [getD_last (by rw [sm_len])]
      have := fm_size (sm_size cs n) (n + 1) (Nat.le_refl _)
      omega
end Vf

set_option Elab.async false
set_option linter.all false
set_option maxRecDepth 100000
set_option maxHeartbeats 4000000
namespace Vf
open PySem PySem.Spec PyProof.Rows L2 TL
def kk (p q : Int) : List Key := [.inl p, .inl q]
theorem kk_inj {p q p' q' : Int} : kk p q = kk p' q' ↔ p = p' ∧ q = q' := by
  refine ⟨fun h => ?_, fun ⟨a, b⟩ => by rw [a, b]⟩
  have h := List.cons.inj h
  have h2 := List.cons.inj h.2
  exact ⟨Sum.inl.inj h.1, Sum.inl.inj h2.1⟩
/-- the dict at D holds f -/
def DemV (H : Hp) (D : Addr) (N : Nat) (f : Int → Int → Option Nat) : Prop := ∃ kvs : List (List Key × V), H D = some (.dT kvs) ∧ kvs.length ≤ N ∧ ∀ p q : Int, valV kvs (kk p q) = (f p q).map nV
theorem DemV.put {H : Hp} {D : Addr} {N : Nat} {f : Int → Int → Option Nat} (h : DemV H D N f) (p q : Int) (v : Nat) (f' : Int → Int → Option Nat) (e : ∀ a b, f' a b = if p = a ∧ q = b then some v else f a b) :
    ∀ kvs : List (List Key × V), H D = some (.dT kvs) → kvs.length ≤ N ∧ DemV (upd H D (.dT (putK kvs (kk p q) (nV v)))) D (N + 1) f' := by
  obtain ⟨kvs, h1, h2, h3⟩ := h
  intro kvs' h4
  rw [h1] at h4
  have := HO.dT.inj (Option.some.inj h4)
  subst this
  refine ⟨h2, _, upd_same, Nat.le_trans (length_putK _ _ _) (by omega), fun a b => ?_⟩
  rw [valV_put, e]
  by_cases c : p = a ∧ q = b
  · rw [if_pos c, if_pos (kk_inj.mpr ⟨c.1.symm, c.2.symm⟩)]; rfl
  · rw [if_neg c, if_neg (fun z => c ⟨(kk_inj.mp z).1.symm, (kk_inj.mp z).2.symm⟩)]; exact h3 a b
def TabOk (n : Nat) (cs : List Arc) : Prop := 1 ≤ n ∧ n ≤ 40 ∧ cs.length ≤ 1000 ∧ ∀ r ∈ cs, 1 ≤ r.2.1 ∧ r.1 + r.2.1 ≤ n
/-- the cells in the heap -/
def CellsV (H : Hp) (v : V) (cs : List Arc) : Prop := ∃ a vs, v = .ref a ∧ H a = some (.tup vs) ∧ LV (ArcV H) vs cs
theorem CellsV.mono {H H' : Hp} {v : V} {cs : List Arc} (h : CellsV H v cs) (k : ∀ a xs, H a = some (.tup xs) → H' a = some (.tup xs)) : CellsV H' v cs := by
  obtain ⟨a, vs, e, h1, h2⟩ := h
  exact ⟨a, vs, e, k _ _ h1, h2.mono fun _ _ z => z.mono k⟩
theorem same_tups {H H' : Hp} (h : Same H H') : ∀ a xs, H a = some (.tup xs) → H' a = some (.tup xs) := fun a xs e => h _ _ e
theorem hu0 {k : Nat} {A : Around} (r : Room k A) : A.units < cLine := by have := r.units; omega
theorem hu1 {k : Nat} {A : Around} (r : Room k A) : A.units + 1 < cLine := by have := r.units; omega
section
variable {P : Program} {w : World} {K : PySem.W.Frag} {mg : Str → Option Value} {base : Heap}
def spDemands : Sp := fun vs H Q _ => ∃ (v : V) (n : Nat) (cs : List Arc), vs = [nV n, v] ∧ CellsV H v cs ∧ TabOk n cs ∧ ∀ H' D, Same H H' → H D = none → DemV H' D 2000 (demT n cs) → Q (.ref D) H'
theorem ok_demands (T : Txt K mg) : FnOk P w K mg base CX0 1 T.a_demands T.d_demands ["tracks", "cells"] spDemands := by
  refine T.D_demands.F.ok sc_demands (fun vs H Q E h => ?_) (fun cdv A outer s H vs Q E hr h => ?_)
  · obtain ⟨v, n, cs, rfl, _⟩ := h
    rfl
  · obtain ⟨v, n, cs, rfl, ⟨a, us, rfl, e1, lv⟩, ok, q⟩ := h
    obtain ⟨n1, n2, n3, n4⟩ := ok
    refine ⟨_, (pss_cons (ps_setDcT (i := 2) (own := [("track", 3)]) (g := gName 3) (tt := tYes) rfl (hu0 hr) sc_demands.nd rfl rfl (sw_dict rfl rfl rfl (by decide +kernel)) (pi_range1 (by rfl) T.n_range (pa_cons (pv 0) pa_nil)) (blkOk_by (own := [("track", 3)]) (N := ["tracks", "cells", "demands", "track", "span", "width", "sides"]) (sc := defScope s_demands) (by decide +kernel)) (fun _ _ _ _ _ => (pg_name (i := 3) sc_demands.nd rfl (.inl rfl))) (fun _ _ _ _ _ => pts_nil) (fun _ _ _ _ _ => (pe_tup (pa_cons (pv 3) (pa_cons (pe_op op_add (pv 3) pe_int) pa_nil)))) (fun _ _ _ _ _ => pe_int))
      (pss_cons (ps_for PassesOwn.never rfl (pi_tup (pv 1)) (pg_tup (by rfl) (pgs_cons (pg_name (i := 3) sc_demands.nd rfl (.inl rfl)) (pgs_cons (pg_name (i := 4) sc_demands.nd rfl (.inl rfl)) (pgs_cons (pg_name (i := 5) sc_demands.nd rfl (.inl rfl)) pgs_nil)))) (pss_cons (ps_set (i := 6) sc_demands.nd rfl (.inl rfl) (pe_tup (pa_cons (pv 3) (pa_cons (pe_op op_add (pv 3) (pv 4)) pa_nil))))
      (pss_one (ps_dput (hu1 hr) (pv 2) (pv 6) (pe_callB (call_max2 (by rfl)) (by rfl) T.n_max (by decide +kernel) (pa_cons (pe_dget2 (hu1 hr) (pv 2) (pv 6) pe_int ⟨rfl, rfl, rfl, rfl⟩) (pa_cons (pe_op op_add (pv 5) pe_int) pa_nil))) rfl))))
      (pss_one (ps_ret (pv 2))))), ?_⟩
    refine ⟨_, rfl, (n : Int), rfl, by omega, by omega, ?_⟩
    rw [show (((n : Nat) : Int)).toNat = n from Int.toNat_natCast n]
    refine fun D nD => dcT_it walk_range (fun i H' => Same H H' ∧ DemV H' D i (fun p q => if q = p + 1 ∧ 0 ≤ p ∧ p < (i : Int) then some 1 else none)) ⟨same_upd (Same.refl H) nD, [], upd_same, Nat.le_refl _, fun p q => by show none = Option.map nV (if q = p + 1 ∧ 0 ≤ p ∧ p < ((0 : Nat) : Int) then some 1 else none); rw [if_neg (by omega)]; rfl⟩ (fun _ _ _ _ => trivial) ?_ ?_
    · rintro i x H2 H3 hi ⟨k2, dv⟩ ⟨rfl, hx⟩
      have hx : x = nV i := by rw [hx]; show V.int (0 + (i : Int)) = _; rw [Int.zero_add]; rfl
      subst hx
      obtain ⟨kvs, f1, f2, f3⟩ := id dv
      have nDt : H D = none := nD
      refine ⟨rfl, _, rfl, _, rfl, _, _, rfl, rfl, by show 2 ≤ sizeLine; decide, fun t nt => ?_⟩
      have k3 := same_upd (o := .tup [nV i, nV (i + 1)]) (Same.refl H3) nt
      have d3 : DemV (upd H3 t (.tup [nV i, nV (i + 1)])) D i (fun p q => if q = p + 1 ∧ 0 ≤ p ∧ p < (i : Int) then some 1 else none) := ⟨kvs, k3 _ _ f1, f2, f3⟩
      have ⟨l3, d4⟩ := d3.put (i : Int) ((i : Int) + 1) 1 (fun p q => if q = p + 1 ∧ 0 ≤ p ∧ p < ((i + 1 : Nat) : Int) then some 1 else none) (fun a b => by
        by_cases c : (i : Int) = a ∧ (i : Int) + 1 = b
        · rw [if_pos c, if_pos (by omega)]
        · rw [if_neg c]
          by_cases c2 : b = a + 1 ∧ 0 ≤ a ∧ a < (i : Int)
          · rw [if_pos (by omega), if_pos c2]
          · rw [if_neg (by omega), if_neg c2]) kvs (k3 _ _ f1)
      exact ⟨kvs, kk (i : Int) ((i : Int) + 1), t, rfl, upd_same, k3 _ _ f1, szN (by omega), same_mut (k2.trans k3) nD, d4⟩
    · rintro H2 ⟨k2, dv⟩
      have d0 : DemV H2 D n (demT n []) := by
        obtain ⟨kvs, f1, f2, f3⟩ := dv
        refine ⟨kvs, f1, f2, fun p q => (f3 p q).trans ?_⟩
        show Option.map nV (if q = p + 1 ∧ 0 ≤ p ∧ p < (n : Int) then some 1 else none) = Option.map nV (mx ((if q = p + 1 ∧ 0 ≤ p ∧ p < (n : Int) then [1] else []) ++ []))
        by_cases c : q = p + 1 ∧ 0 ≤ p ∧ p < (n : Int)
        · rw [if_pos c, if_pos c]; rfl
        · rw [if_neg c, if_neg c]; rfl
      refine ⟨_, rfl, a, rfl, ⟨us, SqT.of (k2 _ _ e1)⟩, ?_⟩
      refine for_it (walk_tup (K := K) (a := a) (xs := us)) (fun i σ' H' => ∃ (x3 x4 x5 x6 : Option V), σ' = [some (nV n), some (.ref a), some (.ref D), x3, x4, x5, x6] ∧ Same H H' ∧ DemV H' D (n + i) (demT n (cs.take i))) ⟨none, none, none, none, rfl, k2, d0⟩ ?_ ?_ ?_
      · rintro i σ' H' _ ⟨_, _, _, _, _, k, _⟩
        exact SqT.of (k _ _ e1)
      · rintro i x σ' H3 H4 hi ⟨x3, x4, x5, x6, rfl, k3, dv⟩ ⟨rfl, hx⟩
        obtain ⟨r, hr, c, rfl, ec⟩ := lv.at hx
        have hil : i < cs.length := (List.getElem?_eq_some_iff.mp hr).1
        refine ⟨c, _, rfl, SqT.of (k3 _ _ ec), rfl, _, _, rfl, _, _, rfl, _, _, rfl, rfl, ?_⟩
        refine ⟨_, rfl, _, rfl, _, rfl, _, _, rfl, rfl, by show 2 ≤ sizeLine; decide, fun t nt => ?_⟩
        obtain ⟨kvs, f1, f2, f3⟩ := id dv
        have k4 := same_upd (o := .tup [nV r.1, nV (r.1 + r.2.1)]) (Same.refl _) nt
        have et : upd H4 t (.tup [nV r.1, nV (r.1 + r.2.1)]) t = some (.tup ((kk (r.1 : Int) ((r.1 : Int) + (r.2.1 : Int))).map kV)) := upd_same
        have f1' := k4 _ _ f1
        have d4 : DemV (upd H4 t (.tup [nV r.1, nV (r.1 + r.2.1)])) D (n + i) (demT n (cs.take i)) := ⟨kvs, f1', f2, f3⟩
        refine ⟨_, rfl, D, rfl, .inr ⟨kvs, .inl f1'⟩, _, rfl, _, DGet.t f1' et, ?_⟩
        rw [f3]
        have ev : ((demT n (cs.take i) (r.1 : Int) ((r.1 : Int) + (r.2.1 : Int))).map nV).getD (V.int 1) = nV ((demT n (cs.take i) (r.1 : Int) ((r.1 : Int) + (r.2.1 : Int))).getD 1) := by
          cases demT n (cs.take i) (r.1 : Int) ((r.1 : Int) + (r.2.1 : Int)) <;> rfl
        rw [ev]
        obtain ⟨g, eg⟩ : ∃ g, g = (demT n (cs.take i) (r.1 : Int) ((r.1 : Int) + (r.2.1 : Int))).getD 1 := ⟨_, rfl⟩
        rw [← eg]
        have em : (if (r.2.2 : Int) + 1 > (g : Int) then (r.2.2 : Int) + 1 else (g : Int)) = ((max g (r.2.2 + 1) : Nat) : Int) := by
          by_cases c : g ≤ r.2.2 + 1
          · rw [Nat.max_eq_right c]
            by_cases c2 : (r.2.2 : Int) + 1 > (g : Int)
            · rw [if_pos c2]; rfl
            · rw [if_neg c2]; omega
          · rw [Nat.max_eq_left (by omega), if_neg (by omega)]
        refine ⟨_, rfl, _, _, rfl, rfl, _, _, rfl, ?_⟩
        show tVar 2 _ _ _
        rw [em]
        have ⟨lk, d5⟩ := d4.put (r.1 : Int) ((r.1 : Int) + (r.2.1 : Int)) (max g (r.2.2 + 1)) (demT n (cs.take (i + 1))) (fun a b => by
          rw [take_succ' hr, demT_snoc]
          by_cases c : (r.1 : Int) = a ∧ (r.1 : Int) + (r.2.1 : Int) = b
          · rw [if_pos c, if_pos c, eg, ← c.1, ← c.2]
          · rw [if_neg c, if_neg c]) kvs f1'
        exact ⟨_, rfl, _, rfl, D, _, rfl, DPut.t f1' et (szN (by omega)), _, _, _, _, rfl, same_mut (k3.trans k4) nD, d5⟩
      · rintro σ' H3 ⟨x3, x4, x5, x6, rfl, k3, dv⟩
        rw [lv.1, List.take_length] at dv
        obtain ⟨kvs, f1, f2, f3⟩ := dv
        exact ⟨_, rfl, q H3 D k3 nD ⟨kvs, f1, by omega, f3⟩⟩
theorem DemV.get {H : Hp} {D b : Addr} {N : Nat} {f : Int → Int → Option Nat} {p q : Int} (h : DemV H D N f) (eb : H b = some (.tup [.int p, .int q])) : DGet H D (.ref b) ((f p q).map nV) := by
  obtain ⟨kvs, h1, _, h3⟩ := h
  rw [← h3 p q]
  exact DGet.t h1 eb
theorem DemV.other {H : Hp} {D a : Addr} {o : HO} {N : Nat} {f : Int → Int → Option Nat} (h : DemV H D N f) (n : D ≠ a) : DemV (upd H a o) D N f := by
  obtain ⟨kvs, h1, h2, h3⟩ := h
  exact ⟨kvs, by rw [upd_ne n]; exact h1, h2, h3⟩
theorem DemV.keep {H H' : Hp} {D : Addr} {N : Nat} {f : Int → Int → Option Nat} (h : DemV H D N f) (k : Same H H') : DemV H' D N f := by
  obtain ⟨kvs, h1, h2, h3⟩ := h
  exact ⟨kvs, k _ _ h1, h2, h3⟩
def spBoundaries : Sp := fun vs H Q _ => ∃ (v : V) (n : Nat) (cs : List Arc), vs = [nV n, v] ∧ CellsV H v cs ∧ TabOk n cs ∧ ∀ H' B, Same H H' → H' B = some (.tup ((bl cs n).map nV)) → Q (.ref B) H'
end
end Vf

set_option Elab.async false
set_option linter.all false
set_option maxRecDepth 100000
set_option maxHeartbeats 4000000
namespace Vf
open PySem PySem.Spec PyProof.Rows L2 TL
/-! ### the law's own demand -/
def dV : Option Nat → V
  | none => .non
  | some x => nV x
def pd (a b : Int) : PyData := .tuple [.int a, .int b]
theorem pd_eqv (a b p q : Int) : PyData.eqv (pd a b) (pd p q) = decide (a = p ∧ b = q) := by
  unfold pd
  simp only [PyData.eqv, PyData.eqvAll, Bool.and_true]
  rw [Bool.eq_iff_iff]
  simp
theorem pd_shaped (a b : Int) : SeqAt.shaped (pd a b) = true := by
  unfold pd
  show (PyData.canLay0 _ && decide (PyData.depth _ ≤ 64)) = true
  rw [Bool.and_eq_true]
  refine ⟨by simp only [PyData.canLay0, PyData.canLayAll0]; rfl, decide_eq_true ?_⟩
  simp only [PyData.depth, PyData.depthAll]
  decide
theorem pd_dp {K : PySem.W.Frag} {H : Hp} {t : Addr} {a b : Int} (e : H t = some (.tup [.int a, .int b])) : Dp K H (.ref t) (pd a b) :=
  .tup (SqT.of e) (.cons (.int a) (.cons (.int b) .nil))
section
variable {P : Program} {w : World} {K : PySem.W.Frag} {mg : Str → Option Value} {base : Heap}
def spLawDemand : Sp := fun vs H Q _ => ∃ (v : V) (cs : List Arc) (p q : Int), vs = [v, .int p, .int q] ∧ CellsV H v cs ∧ cs.length ≤ 1000 ∧ ∀ H', Same H H' → Q (dV (demI cs p q)) H'
theorem ok_law_demand (T : Txt K mg) : FnOk P w K mg base CX0 1 T.a_law_demand T.d_law_demand ["_law_cells", "_law_first", "_law_last"] spLawDemand := by
  refine T.D_law_demand.F.ok sc_law_demand (fun vs H Q E h => ?_) (fun cdv A outer s H vs Q E hr h => ?_)
  · obtain ⟨v, cs, p, q, rfl, _⟩ := h
    rfl
  · obtain ⟨v, cs, p, q, rfl, ⟨a, us, rfl, e1, lv⟩, hl, hQ⟩ := h
    refine ⟨_, (pss_cons (ps_setLc (i := 3) (own := [("_law_c", 4), ("_law_s", 5), ("_law_w", 6)]) (g := (gTup K 3 (gCons (gName 4) (gCons (gName 5) (gCons (gName 6) gNil))))) rfl sc_law_demand.nd rfl rfl (sw_true rfl rfl rfl (by decide +kernel)) (pi_tup (pv 0)) (blkOk_by (own := [("_law_c", 4), ("_law_s", 5), ("_law_w", 6)]) (N := ["_law_cells", "_law_first", "_law_last", "_law_demands", "_law_c", "_law_s", "_law_w"]) (sc := defScope s_law_demand) (by decide +kernel)) (fun _ _ _ _ _ => (pg_tup (by rfl) (pgs_cons (pg_name (i := 4) sc_law_demand.nd rfl (.inl rfl)) (pgs_cons (pg_name (i := 5) sc_law_demand.nd rfl (.inl rfl)) (pgs_cons (pg_name (i := 6) sc_law_demand.nd rfl (.inl rfl)) pgs_nil))))) (fun _ _ _ _ _ => (pts_one (pt_cmpR (r := rEqD K) (op_eqD (Room.units hr)) (pe_tup (pa_cons (pv 4) (pa_cons (pe_op op_add (pv 4) (pv 5)) pa_nil))) (pe_tup (pa_cons (pv 1) (pa_cons (pv 2) pa_nil))) (nomark _)))) (fun _ _ _ _ _ => (pe_op op_add (pv 6) pe_int)))
      (Evl.pss_cut (ps_if (pt_cmpR op_eq (pv 2) (pe_op op_add (pv 1) pe_int) (nomark _)) (pss_one (ps_expr (pe_bm PySem.F.plainAttrs_list PySem.F.slot_list_append PySem.F.type_list_append mt_append (pv 3) (pa_cons pe_int pa_nil)))) pss_nil)
      (pss_one (ps_ret (pe_ifExp (pt_truth (pv 3) (by intro _; rfl)) (pe_callB (cr_max (by rfl)) (by rfl) T.n_max (by decide +kernel) (pa_cons (pv 3) pa_nil)) pe_non))))), ?_⟩
    refine ⟨_, rfl, a, rfl, ⟨us, SqT.of e1⟩, fun D nD => ?_⟩
    refine lc_it (walk_tup (K := K) (a := a) (xs := us)) (fun i H' => Same H H' ∧ H' D = some (.lst (((cs.take i).filterMap (msI p q)).map nV)) ∧ ((cs.take i).filterMap (msI p q)).length ≤ i) ⟨same_upd (Same.refl H) nD, upd_same, Nat.le_refl _⟩ ?_ ?_ ?_
    · rintro i H' _ ⟨k, _⟩
      exact SqT.of (k _ _ e1)
    · rintro i x H2 H3 hi ⟨k2, eD, ln⟩ ⟨rfl, hx⟩
      obtain ⟨r, hr, c, rfl, ec⟩ := lv.at hx
      have hil : i < cs.length := (List.getElem?_eq_some_iff.mp hr).1
      refine ⟨c, _, rfl, SqT.of (k2 _ _ ec), rfl, _, _, rfl, _, _, rfl, _, _, rfl, rfl, rfl, ?_⟩
      refine ⟨_, rfl, _, rfl, _, rfl, _, _, rfl, rfl, by show 2 ≤ sizeLine; decide, fun t nt => ?_⟩
      have k4 := same_upd (o := .tup [V.int (r.1 : Int), V.int ((r.1 : Int) + (r.2.1 : Int))]) (Same.refl H3) nt
      have et : upd H3 t (.tup [V.int (r.1 : Int), V.int ((r.1 : Int) + (r.2.1 : Int))]) t = some (.tup [V.int (r.1 : Int), V.int ((r.1 : Int) + (r.2.1 : Int))]) := upd_same
      refine ⟨_, rfl, _, rfl, by show 2 ≤ sizeLine; decide, fun u nu => ?_⟩
      have k5 := same_upd (o := .tup [V.int p, V.int q]) (Same.refl _) nu
      refine ⟨_, _, pd_dp (k5 _ _ et), pd_dp upd_same, pd_shaped _ _, pd_shaped _ _, ?_⟩
      rw [pd_eqv]
      have kk := k4.trans k5
      generalize upd (upd H3 t (.tup [V.int (r.1 : Int), V.int ((r.1 : Int) + (r.2.1 : Int))])) u (.tup [V.int p, V.int q]) = H6 at kk
      have rs : (cs.take (i + 1)).filterMap (msI p q) = (cs.take i).filterMap (msI p q) ++ (msI p q r).toList := by
        rw [take_succ' hr, List.filterMap_append]
        cases h : msI p q r with
        | none => rw [List.filterMap_cons_none h]; rfl
        | some x => rw [List.filterMap_cons_some h]; rfl
      by_cases cc : (r.1 : Int) = p ∧ (r.1 : Int) + (r.2.1 : Int) = q
      · have ec : msI p q r = some (r.2.2 + 1) := if_pos cc
        refine ⟨true, bTr cc, ?_⟩
        refine ⟨_, rfl, _, _, rfl, rfl, _, kk _ _ eD, by rw [List.length_map]; exact szN (by omega), same_mut (k2.trans kk) nD, ?_, ?_⟩
        · rw [upd_same, rs, ec, List.map_append]; rfl
        · rw [rs, ec, List.length_append]; show _ + 1 ≤ _; omega
      · have ec : msI p q r = none := if_neg cc
        refine ⟨false, bFa cc, k2.trans kk, ?_, ?_⟩
        · rw [rs, ec]; show _ = some (HO.lst ((_ ++ []).map nV)); rw [List.append_nil]; exact kk _ _ eD
        · rw [rs, ec]; show (_ ++ []).length ≤ _; rw [List.append_nil]; omega
    · rintro H2 ⟨k2, eD, ln⟩
      rw [lv.1, List.take_length] at eD ln
      refine ⟨fun σ' H' => ∃ (l : List Nat) (x4 x5 x6 : Option V), σ' = [some (.ref a), some (.int p), some (.int q), some (.ref D), x4, x5, x6] ∧ Same H H' ∧ H' D = some (.lst (l.map nV)) ∧ mx l = demI cs p q, ?_, ?_⟩
      · refine ⟨_, rfl, _, rfl, _, _, rfl, rfl, rfl, ?_⟩
        by_cases c : q = p + 1
        · refine ⟨true, bTr (by rw [c]), ?_⟩
          refine ⟨.ref D, rfl, .inl ⟨rfl, _, .inl (.inl eD)⟩, D, _, _, rfl, rfl, eD, by rw [List.length_map]; exact szN (by omega), ?_⟩
          refine ⟨cs.filterMap (msI p q) ++ [1], _, _, _, rfl, same_mut k2 nD, by rw [upd_same, List.map_append]; rfl, ?_⟩
          unfold demI
          rw [if_pos c]
        · refine ⟨false, bFa (fun z => c (V.int.inj z)), ?_⟩
          refine ⟨cs.filterMap (msI p q), _, _, _, rfl, k2, eD, ?_⟩
          unfold demI
          rw [if_neg c, List.append_nil]
      · rintro σ' H3 ⟨l, x4, x5, x6, rfl, k3, eL, em⟩
        cases l with
        | nil =>
          refine ⟨_, rfl, false, .inl ⟨_, SqL.of eL, rfl⟩, ?_⟩
          have := hQ H3 k3
          rw [← em] at this
          exact this
        | cons x r =>
          refine ⟨_, rfl, true, .inl ⟨_, SqL.of eL, rfl⟩, ?_⟩
          refine ⟨_, rfl, D, (x :: r).map (fun x : Nat => (x : Int)), rfl, SqL.of (by rw [eL, List.map_map]; rfl), by simp, fun m hm hM => ?_⟩
          obtain ⟨v0, hv0, rfl⟩ := List.mem_map.mp hm
          have e0 : mx (x :: r) = some v0 := mx_of hv0 fun y hy => by
            have := hM (y : Int) (List.mem_map.mpr ⟨y, hy, rfl⟩)
            omega
          have := hQ H3 k3
          rw [← em, e0] at this
          exact this
end
end Vf

set_option Elab.async false
set_option linter.all false
set_option maxRecDepth 100000
set_option maxHeartbeats 4000000
namespace Vf
open PySem PySem.Spec PyProof.Rows L2 TL
/-! ### rows of cells in another order, slices of tuples -/
/-- the cells of a row that holds the same things -/
theorem cells_perm {H : Hp} {us ws : List V} {ds : List Arc} (lv : LV (ArcV H) ws ds) (hp : us.Perm ws) : ∃ ds' : List Arc, LV (ArcV H) us ds' ∧ (∀ r, r ∈ ds' → r ∈ ds) ∧ (∀ r, r ∈ ds → r ∈ ds') := by
  -- each thing of us is a cell of ds
  have one : ∀ x ∈ us, ∃ r, r ∈ ds ∧ ArcV H x r := by
    intro x hx
    obtain ⟨i, hi, e⟩ := List.mem_iff_getElem.mp (hp.mem_iff.mp hx)
    obtain ⟨r, hr, h⟩ := lv.at (i := i) (x := x) (by rw [List.getElem?_eq_getElem hi, e])
    exact ⟨r, List.mem_of_getElem? hr, h⟩
  have make : ∀ l : List V, (∀ x ∈ l, ∃ r, r ∈ ds ∧ ArcV H x r) → ∃ ds' : List Arc, LV (ArcV H) l ds' ∧ ∀ r, r ∈ ds' → r ∈ ds := by
    intro l
    induction l with
    | nil => exact fun _ => ⟨[], LV.nil, fun _ h => nomatch h⟩
    | cons x l ih =>
      intro h
      obtain ⟨r, hr, hx⟩ := h x List.mem_cons_self
      obtain ⟨ds', h1, h2⟩ := ih fun y hy => h y (List.mem_cons_of_mem _ hy)
      refine ⟨r :: ds', ⟨by rw [List.length_cons, List.length_cons, h1.1], fun i q e => ?_⟩, fun y hy => ?_⟩
      · cases i with
        | zero => exact ⟨x, rfl, by rw [← Option.some.inj e]; exact hx⟩
        | succ i => exact h1.2 i q e
      · rcases List.mem_cons.mp hy with e | e
        · rw [e]; exact hr
        · exact h2 y e
  obtain ⟨ds', h1, h2⟩ := make us one
  refine ⟨ds', h1, h2, fun r hr => ?_⟩
  obtain ⟨i, hi, e⟩ := List.mem_iff_getElem.mp hr
  obtain ⟨x, gx, hx⟩ := lv.2 i r (by rw [List.getElem?_eq_getElem hi, e])
  obtain ⟨j, hj, e2⟩ := List.mem_iff_getElem.mp (hp.mem_iff.mpr (List.mem_of_getElem? gx))
  obtain ⟨r', hr', hx'⟩ := h1.at (i := j) (x := x) (by rw [List.getElem?_eq_getElem hj, e2])
  -- one thing holds one cell
  obtain ⟨b, eb, hb⟩ := hx
  obtain ⟨b', eb', hb'⟩ := hx'
  rw [eb] at eb'
  have := V.ref.inj eb'
  subst this
  rw [hb] at hb'
  have h := HO.tup.inj (Option.some.inj hb')
  have h3 := List.cons.inj h
  have h4 := List.cons.inj h3.2
  have h5 := List.cons.inj h4.2
  have : r = r' := by
    have a1 : r.1 = r'.1 := Int.ofNat.inj (V.int.inj h3.1)
    have a2 : r.2.1 = r'.2.1 := Int.ofNat.inj (V.int.inj h4.1)
    have a3 : r.2.2 = r'.2.2 := Int.ofNat.inj (V.int.inj h5.1)
    exact Prod.ext a1 (Prod.ext a2 a3)
  rw [this]
  exact List.mem_of_getElem? hr'
theorem LV.app {α : Type} {R : V → α → Prop} {vs us : List V} {rs qs : List α} (h : LV R vs rs) (g : LV R us qs) : LV R (vs ++ us) (rs ++ qs) := by
  refine ⟨by rw [List.length_append, List.length_append, h.1, g.1], fun i r e => ?_⟩
  by_cases hi : i < rs.length
  · rw [List.getElem?_append_left hi] at e
    obtain ⟨x, e1, e2⟩ := h.2 i r e
    exact ⟨x, by rw [List.getElem?_append_left (by rw [h.1]; exact hi)]; exact e1, e2⟩
  · rw [List.getElem?_append_right (by omega)] at e
    obtain ⟨x, e1, e2⟩ := g.2 _ r e
    exact ⟨x, by rw [List.getElem?_append_right (by rw [h.1]; omega), h.1]; exact e1, e2⟩
theorem LV.takeN {α : Type} {R : V → α → Prop} {vs : List V} {rs : List α} (n : Nat) (h : LV R vs rs) : LV R (vs.take n) (rs.take n) := by
  refine ⟨by rw [List.length_take, List.length_take, h.1], fun i r e => ?_⟩
  rw [List.getElem?_take] at e
  by_cases c : i < n
  · rw [if_pos c] at e
    obtain ⟨x, e1, e2⟩ := h.2 i r e
    exact ⟨x, by rw [List.getElem?_take, if_pos c]; exact e1, e2⟩
  · rw [if_neg c] at e; cases e
theorem cut_one (xs : List V) : cutV xs none (some 1) = xs.take 1 := by
  unfold cutV
  rw [HT.sIx_none, show (some (1 : Int)) = some ((1 : Nat) : Int) from rfl, HT.sIx_nat, List.drop_zero, Nat.sub_zero]
  cases xs with
  | nil => rfl
  | cons x r => rw [Nat.min_eq_left (by rw [List.length_cons]; omega)]
theorem slA_any {K : PySem.W.Frag} {a : Addr} {xs : List V} {lo hi : Option Int} {H : Hp} {Q : VK} (e : H a = some (.tup xs)) (q : ∀ b H', Same H H' → H' b = some (.tup (cutV xs lo hi)) → Q (.ref b) H') : rSlA K (.ref a) lo hi H Q := by
  refine ⟨a, xs, rfl, SqT.of e, fun ⟨h1, h2⟩ => q a H (Same.refl H) ?_, fun _ p np => q p _ (same_upd (Same.refl H) np) upd_same⟩
  rw [e]
  unfold cutV
  rw [h1, h2, List.drop_zero, Nat.sub_zero, List.take_length]
theorem cut_from1 (xs : List V) : cutV xs (some 1) none = xs.drop 1 := by
  unfold cutV
  rw [HT.sIx_none, show (some (1 : Int)) = some ((1 : Nat) : Int) from rfl, HT.sIx_nat]
  cases xs with
  | nil => rfl
  | cons x r =>
    rw [Nat.min_eq_left (by rw [List.length_cons]; omega)]
    show r.take (r.length + 1 - 1) = r
    rw [Nat.add_sub_cancel, List.take_length]
theorem slA_from {K : PySem.W.Frag} {a : Addr} {xs : List V} {lo : Option Int} {H : Hp} {Q : VK} {σ : L2.St} (e : H a = some (.tup xs)) (q : ∀ b H', Same H H' → H' b = some (.tup (cutV xs lo none)) → Q (.ref b) H') : tNoPart σ H (fun u H3 => rSlA K (.ref a) lo u H3 Q) :=
  slA_any e q
end Vf

set_option Elab.async false
set_option linter.all false
set_option maxRecDepth 100000
set_option maxHeartbeats 4000000
namespace Vf
open PySem PySem.Spec PyProof.Rows L2 TL
/-! ### rows shuffled, whatever stands in them -/
theorem seqIxV {n k : Nat} (h : k < n) : seqIndex? (k : Int) n = some k := by
  unfold seqIndex?
  simp only [if_neg (show ¬ ((k : Int) < 0) by omega)]
  rw [if_pos (by rw [decide_eq_true (show (0 : Int) ≤ (k : Int) by omega), decide_eq_true (show (k : Int) < (n : Int) by omega)]; rfl)]
  rfl
theorem erase_permV {α : Type} {z : α} : ∀ {l : List α} {k : Nat}, l[k]? = some z → (z :: l.eraseIdx k).Perm l
  | [], _, h => by cases h
  | x :: l, 0, h => by
    have e := Option.some.inj h
    subst e
    exact List.Perm.refl _
  | x :: l, k + 1, h => (List.Perm.swap x z _).trans (List.Perm.cons x (erase_permV (l := l) (k := k) h))
theorem draw_nat {m r : Int} (h : 0 < m) (e1 : m < 2 → r = 0) (e2 : 2 ≤ m → 0 ≤ r ∧ r < m) : ∃ j : Nat, r = (j : Int) ∧ (j : Int) < m := by
  by_cases c : m < 2
  · exact ⟨0, e1 c, by omega⟩
  · have := e2 (by omega)
    exact ⟨r.toNat, by omega, by omega⟩
section
variable {P : Program} {w : World} {K : PySem.W.Frag} {mg : Str → Option Value} {base : Heap}
def spShufV : Sp := fun vs H Q _ => ∃ (d l r : Addr) (zs : List V), vs = [.ref d, .ref r] ∧ DI d l H ∧ H r = some (.lst zs) ∧ zs.length ≤ 2000 ∧
  ∀ H' p (us : List V), Kp d H H' → DI d l H' → H p = none → H' p = some (.lst us) → us.Perm zs → Q (.ref p) H'
theorem ok_shufV (T : Txt K mg) : FnOk P w K mg base CX0 2 T.a_law_shuffled T.d_law_shuffled ["_law_d", "_law_row"] spShufV := by
  have G_law_draw : FnOk P w K mg base CX0 1 T.a_law_draw T.d_law_draw ["_law_d", "_law_many"] spDraw := ok_draw T
  refine T.D_law_shuffled.F.ok sc_law_shuffled (fun vs H Q E h => ?_) (fun cdv A outer s H vs Q E hr h => ?_)
  · obtain ⟨d, l, r, zs, rfl, _⟩ := h
    rfl
  · obtain ⟨d, l, r, zs, rfl, hD, hr1, hl, q⟩ := h
    refine ⟨_, (pss_cons (ps_set (i := 2) sc_law_shuffled.nd rfl (.inl rfl) (pe_callTy call_list_of (by rfl) T.n_list (by decide +kernel) (pa_cons (pv 1) pa_nil)))
      (pss_cons (ps_set (i := 3) sc_law_shuffled.nd rfl (.inl rfl) (pe_lst pa_nil))
      (pss_cons (ps_while PassesOwn.never (pt_truth (pv 2) (by intro _; rfl)) (pss_one (ps_expr (pe_bm PySem.F.plainAttrs_list PySem.F.slot_list_append PySem.F.type_list_append mt_append (pv 3) (pa_cons (pe_bm PySem.F.plainAttrs_list PySem.F.slot_list_pop PySem.F.type_list_pop mt_popAt (pv 2) (pa_cons (pe_call G_law_draw (hr.mono (by decide)) (by rfl) T.D_law_draw.G T.D_law_draw.F.kp T.D_law_draw.B .nil pass0 (pa_cons (pv 0) (pa_cons (pe_callB call_len_seq (by rfl) T.n_len PySem.boot_len (pa_cons (pv 2) pa_nil)) pa_nil))) pa_nil)) pa_nil)))))
      (pss_one (ps_ret (pv 3)))))), ?_⟩
    refine ⟨_, rfl, r, _, rfl, .inl (SqL.of hr1), fun L nL => ?_⟩
    have D1 := hD.new (o := .lst zs) nL
    have K1 := (Kp.refl d H).new (o := .lst zs) nL
    refine ⟨by show 0 ≤ sizeLine; decide, fun F nF => ?_⟩
    have D2 := D1.new (o := .lst []) nF
    have K2 := K1.new (o := .lst []) nF
    have eL : upd (upd H L (.lst zs)) F (.lst []) L = some (.lst zs) := by rw [upd_ne (ne_of_none upd_same nF)]; exact upd_same
    have nLF : L ≠ F := ne_of_none upd_same nF
    have ndL := hD.nd nL
    have nFH : H F = none := by rw [upd_ne nLF.symm] at nF; exact nF
    have ndF := hD.nd nFH
    refine ⟨fun m σ H' => ∃ (ls fs : List V), m = ls.length ∧ σ = [some (.ref d), some (.ref r), some (.ref L), some (.ref F)] ∧ Kp d H H' ∧ DI d l H' ∧ H' L = some (.lst ls) ∧ H' F = some (.lst fs) ∧ (ls ++ fs).Perm zs,
      ⟨_, zs, [], rfl, rfl, K2, D2, eL, upd_same, by rw [List.append_nil]⟩, fun m σ H' hW => ?_⟩
    obtain ⟨ls, fs, rfl, rfl, K3, D3, e1, e2, hp⟩ := hW
    have pl := hp.length_eq
    rw [List.length_append] at pl
    refine ⟨_, rfl, !ls.isEmpty, .inl ⟨_, SqL.of e1, rfl⟩, ?_⟩
    cases ls with
    | nil =>
      exact ⟨_, rfl, q H' F fs K3 D3 nFH e2 hp⟩
    | cons z0 ls =>
      rw [List.length_cons] at pl
      refine ⟨fun σ' H1 => ∃ (ls2 fs2 : List V), ls2.length = ls.length ∧ σ' = [some (.ref d), some (.ref r), some (.ref L), some (.ref F)] ∧ Kp d H H1 ∧ DI d l H1 ∧ H1 L = some (.lst ls2) ∧ H1 F = some (.lst fs2) ∧ (ls2 ++ fs2).Perm zs, fun σ' H1 hN => ?_, ?_⟩
      · obtain ⟨ls2, fs2, el, rfl, a1, a2, a3, a4, a5⟩ := hN
        exact ⟨ls2.length, by rw [List.length_cons]; omega, ls2, fs2, rfl, rfl, a1, a2, a3, a4, a5⟩
      · refine ⟨.ref F, rfl, .inl ⟨rfl, _, SqL.of e2⟩, .ref L, rfl, .inl ⟨rfl, _, SqL.of e1⟩, _, rfl, _, rfl, L, _, rfl, .inl (SqL.of e1), d, l, _, rfl, D3, by rw [List.length_cons]; omega, fun H4 i K4 D4 i1 i2 => ?_⟩
        have e1' := K4 _ _ ndL.1 e1
        have e2' := K4 _ _ ndF.1 e2
        obtain ⟨k, rfl, hk⟩ := draw_nat (by rw [List.length_cons]; omega) i1 i2
        have hk : k < (z0 :: ls).length := by omega
        have g : (z0 :: ls)[k]? = some (z0 :: ls)[k] := List.getElem?_eq_getElem hk
        obtain ⟨z, ez⟩ : ∃ z, (z0 :: ls)[k] = z := ⟨_, rfl⟩
        rw [ez] at g
        have lk : (z0 :: ls).length = ls.length + 1 := rfl
        refine ⟨L, _, (k : Int), k, z, rfl, rfl, e1', by omega, by omega, seqIxV hk, g, ?_⟩
        have e2'' : upd H4 L (.lst ((z0 :: ls).eraseIdx k)) F = some (.lst fs) := by rw [upd_ne nLF.symm]; exact e2'
        refine ⟨F, _, _, rfl, rfl, e2'', szN (by omega), ?_⟩
        refine ⟨(z0 :: ls).eraseIdx k, fs ++ [z], ?_, rfl, ((K3.trans K4).mut nL).mut nFH, (D4.at ndL.1 ndL.2).at ndF.1 ndF.2, ?_, upd_same, ?_⟩
        · rw [List.length_eraseIdx_of_lt hk]; rfl
        · rw [upd_ne nLF, upd_same]
        · have p1 : ((z0 :: ls).eraseIdx k ++ (fs ++ [z])).Perm ((z0 :: ls) ++ fs) := by
            have p2 : (z :: (z0 :: ls).eraseIdx k).Perm (z0 :: ls) := erase_permV g
            refine (List.Perm.append_left _ (List.perm_append_singleton z fs)).trans ?_
            refine List.perm_middle.trans ?_
            exact List.Perm.append_right fs p2
          exact p1.trans hp
end
end Vf

set_option Elab.async false
set_option linter.all false
set_option maxRecDepth 100000
set_option maxHeartbeats 4000000
namespace Vf
open PySem PySem.Spec PyProof.Rows L2 TL
theorem asc_at {ps : List Nat} (h : ps.Pairwise (· < ·)) {i j : Nat} (hij : i < j) (hj : j < ps.length) : ps.getD i 0 < ps.getD j 0 := by
  rw [List.getD_eq_getElem?_getD, List.getD_eq_getElem?_getD, List.getElem?_eq_getElem hj, List.getElem?_eq_getElem (by omega)]
  exact List.pairwise_iff_getElem.mp h i j (by omega) hj hij
theorem getD_at {ps : List Nat} {i : Nat} (h : i < ps.length) : (ps.map nV)[i]? = some (nV (ps.getD i 0)) := by
  rw [List.getElem?_map, List.getD_eq_getElem?_getD, List.getElem?_eq_getElem h]; rfl
def isG : V → Bool
  | .int g => decide (1 ≤ g) && decide (g ≤ 9)
  | _ => false
theorem isG_of {v : V} (h : isG v = true) : ∃ g : Int, v = .int g ∧ 1 ≤ g ∧ g ≤ 9 := by
  cases v with
  | int g =>
    have ⟨a, b⟩ := Bool.and_eq_true_iff.mp h
    exact ⟨g, rfl, of_decide_eq_true a, of_decide_eq_true b⟩
  | _ => cases h
def isM : V → Bool
  | .int g => decide (0 ≤ g) && decide (g ≤ 16)
  | _ => false
theorem isM_of {v : V} (h : isM v = true) : ∃ g : Nat, v = nV g ∧ g ≤ 16 := by
  cases v with
  | int g =>
    have ⟨a, b⟩ := Bool.and_eq_true_iff.mp h
    have a := of_decide_eq_true a
    have b := of_decide_eq_true b
    exact ⟨g.toNat, by unfold nV; rw [Int.toNat_of_nonneg a], by omega⟩
  | _ => cases h
theorem none_of_kp {d : Addr} {H H' : Hp} {b : Addr} (k : Kp d H H') (n : b ≠ d) (h : H' b = none) : H b = none := by
  cases e : H b with
  | none => rfl
  | some o => rw [k _ _ n e] at h; cases h
def CdI (d l : Addr) (H : Hp) (n m : Nat) (ps : List Nat) (S C : Addr) (i : Nat) (H' : Hp) (us : List V) (cs : List Arc) : Prop :=
  Kp d H H' ∧ DI d l H' ∧ H' S = some (.lst (ps.map nV)) ∧ H' C = some (.lst us) ∧ LV (ArcV H') us cs ∧ cs.length = i ∧ ∀ r ∈ cs, 1 ≤ r.2.1 ∧ r.1 + r.2.1 ≤ n
section
variable {P : Program} {w : World} {K : PySem.W.Frag} {mg : Str → Option Value} {base : Heap}
def spCells : Sp := fun vs H Q _ => ∃ (d l : Addr) (n m : Nat), vs = [.ref d, nV n, nV m] ∧ DI d l H ∧ 1 ≤ n ∧ n ≤ 40 ∧ m ≤ 500 ∧
  ∀ H' v cs, Kp d H H' → DI d l H' → CellsV H' v cs → cs.length = m → (∀ r ∈ cs, 1 ≤ r.2.1 ∧ r.1 + r.2.1 ≤ n) → Q v H'
theorem ok_cells (T : Txt K mg) : FnOk P w K mg base CX0 3 T.a_law_cells_drawn T.d_law_cells_drawn ["_law_d", "_law_tracks", "_law_many"] spCells := by
  have G_law_draw : FnOk P w K mg base CX0 1 T.a_law_draw T.d_law_draw ["_law_d", "_law_many"] spDraw := ok_draw T
  have G_law_rare : FnOk P w K mg base CX0 2 T.a_law_rare T.d_law_rare ["_law_d", "_law_many"] spRare := ok_rare T
  have G_law_pick : FnOk P w K mg base CX0 2 T.a_law_pick T.d_law_pick ["_law_d", "_law_row"] (spPick K) := ok_pick T
  refine T.D_law_cells_drawn.F.ok sc_law_cells_drawn (fun vs H Q E h => ?_) (fun cdv A outer s H vs Q E hr h => ?_)
  · obtain ⟨d, l, n, m, rfl, _⟩ := h
    rfl
  · obtain ⟨d, l, n, m, rfl, hD, n1, n2, m2, q⟩ := h
    refine ⟨_, (pss_cons (ps_set (i := 3) sc_law_cells_drawn.nd rfl (.inl rfl) (pe_call G_law_pick (hr.mono (by decide)) (by rfl) T.D_law_pick.G T.D_law_pick.F.kp T.D_law_pick.B .nil pass0 (pa_cons (pv 0) (pa_cons (pe_lst (pa_cons pe_int (pa_cons pe_int (pa_cons pe_int (pa_cons pe_int (pa_cons pe_int pa_nil)))))) pa_nil))))
      (pss_cons (ps_set (i := 4) sc_law_cells_drawn.nd rfl (.inl rfl) (pe_lst (pa_cons pe_int pa_nil)))
      (pss_cons (ps_for PassesOwn.never rfl (pi_range1 (by rfl) T.n_range (pa_cons (pv 1) pa_nil)) (pg_name (i := 5) sc_law_cells_drawn.nd rfl (.inl rfl)) (pss_one (ps_expr (pe_bm PySem.F.plainAttrs_list PySem.F.slot_list_append PySem.F.type_list_append mt_append (pv 4) (pa_cons (pe_op op_add (pe_op op_add (pe_ix ix_list (pv 4) (pv 5) (fun _ _ => rfl)) pe_int) (pe_call G_law_draw (hr.mono (by decide)) (by rfl) T.D_law_draw.G T.D_law_draw.F.kp T.D_law_draw.B .nil pass0 (pa_cons (pv 0) (pa_cons (pv 3) pa_nil)))) pa_nil)))))
      (pss_cons (ps_set (i := 6) sc_law_cells_drawn.nd rfl (.inl rfl) (pe_call G_law_draw (hr.mono (by decide)) (by rfl) T.D_law_draw.G T.D_law_draw.F.kp T.D_law_draw.B .nil pass0 (pa_cons (pv 0) (pa_cons pe_int pa_nil))))
      (pss_cons (ps_set (i := 7) sc_law_cells_drawn.nd rfl (.inl rfl) (pe_lst pa_nil))
      (pss_cons (ps_for PassesOwn.never rfl (pi_range1 (by rfl) T.n_range (pa_cons (pv 2) pa_nil)) (pg_name (i := 5) sc_law_cells_drawn.nd rfl (.inl rfl)) (pss_cons (ps_set (i := 8) sc_law_cells_drawn.nd rfl (.inl rfl) (pe_call G_law_draw (hr.mono (by decide)) (by rfl) T.D_law_draw.G T.D_law_draw.F.kp T.D_law_draw.B .nil pass0 (pa_cons (pv 0) (pa_cons (pv 1) pa_nil))))
      (pss_cons (ps_set (i := 9) sc_law_cells_drawn.nd rfl (.inl rfl) (pe_op op_add pe_int (pe_call G_law_draw (hr.mono (by decide)) (by rfl) T.D_law_draw.G T.D_law_draw.F.kp T.D_law_draw.B .nil pass0 (pa_cons (pv 0) (pa_cons (pe_op op_sub (pv 1) (pv 8)) pa_nil)))))
      (pss_cons (ps_set (i := 10) sc_law_cells_drawn.nd rfl (.inl rfl) (pe_op op_sub (pe_op op_sub (pe_ix ix_list (pv 4) (pe_op op_add (pv 8) (pv 9)) (fun _ _ => rfl)) (pe_ix ix_list (pv 4) (pv 8) (fun _ _ => rfl))) pe_int))
      (Evl.pss_cut (ps_if (pt_cmpR op_eq (pv 6) pe_int (nomark _)) (pss_one (ps_set (i := 10) sc_law_cells_drawn.nd rfl (.inl rfl) (pe_call G_law_draw (hr.mono (by decide)) (by rfl) T.D_law_draw.G T.D_law_draw.F.kp T.D_law_draw.B .nil pass0 (pa_cons (pv 0) (pa_cons (pe_op op_add pe_int (pe_op op_mul pe_int (pv 9))) pa_nil))))) (pss_one (ps_if (PW.pt (pw_and (pt_cmpR op_gt (pv 10) pe_int (nomark _)) (pw_and1 (pt_cmpR op_eq (pe_call G_law_draw (hr.mono (by decide)) (by rfl) T.D_law_draw.G T.D_law_draw.F.kp T.D_law_draw.B .nil pass0 (pa_cons (pv 0) (pa_cons pe_int pa_nil))) pe_int (nomark _))))) (pss_one (ps_set (i := 10) sc_law_cells_drawn.nd rfl (.inl rfl) (pe_op op_sub (pv 10) pe_int))) pss_nil)))
      (Evl.pss_cut (ps_if (pt_val (pe_call G_law_rare (hr.mono (by decide)) (by rfl) T.D_law_rare.G T.D_law_rare.F.kp T.D_law_rare.B .nil pass0 (pa_cons (pv 0) (pa_cons pe_int pa_nil)))) (pss_one (ps_set (i := 10) sc_law_cells_drawn.nd rfl (.inl rfl) (pe_call G_law_draw (hr.mono (by decide)) (by rfl) T.D_law_draw.G T.D_law_draw.F.kp T.D_law_draw.B .nil pass0 (pa_cons (pv 0) (pa_cons pe_int pa_nil))))) pss_nil)
      (pss_one (ps_expr (pe_bm PySem.F.plainAttrs_list PySem.F.slot_list_append PySem.F.type_list_append mt_append (pv 7) (pa_cons (pe_tup (pa_cons (pv 8) (pa_cons (pv 9) (pa_cons (pv 10) pa_nil)))) pa_nil))))))))))
      (pss_one (ps_ret (pe_callTy call_tuple_of (by rfl) T.n_tuple (by decide +kernel) (pa_cons (pv 7) pa_nil)))))))))), ?_⟩
    refine ⟨_, rfl, Nat.le_of_lt (szN (by show _ < 100000; simp)), fun M nM => ?_⟩
    refine ⟨d, l, .ref M, _, rfl, hD.new nM, .inl ⟨M, rfl, (hD.nd nM).1, SqL.of upd_same⟩, Nat.succ_pos _, by show _ ≤ 1000; simp, fun H1 v k1 D1 hv => ?_⟩
    have k1 := ((Kp.refl d H).new nM).trans k1
    have hv2 := List.all_eq_true.mp (show List.all _ isG = true from rfl) v hv
    obtain ⟨g, rfl, g1, g9⟩ := isG_of hv2
    refine ⟨by show 1 ≤ sizeLine; decide, fun S nS => ?_⟩
    have dS := D1.nd nS
    have D2 := D1.new (o := .lst [V.int 0]) nS
    have k2 := k1.new (o := .lst [V.int 0]) nS
    have nSH := none_of_kp k1 dS.1 nS
    refine ⟨_, rfl, (n : Int), rfl, by omega, by omega, ?_⟩
    rw [show (((n : Nat) : Int)).toNat = n from Int.toNat_natCast n]
    refine for_it walk_range (fun i σ' H' => ∃ (ps : List Nat) (x5 x6 x7 x8 x9 x10 : Option V), σ' = [some (.ref d), some (nV n), some (nV m), some (.int g), some (.ref S), x5, x6, x7, x8, x9, x10] ∧ Kp d H H' ∧ DI d l H' ∧ H' S = some (.lst (ps.map nV)) ∧ ps.length = i + 1 ∧ ps.Pairwise (· < ·)) ⟨[0], none, none, none, none, none, none, rfl, k2, D2, upd_same, rfl, List.pairwise_singleton _ _⟩ (fun _ _ _ _ _ => trivial) ?_ ?_
    · rintro i x σ' H2 H3 hi ⟨ps, x5, x6, x7, x8, x9, x10, rfl, k3, D3, eS, ls, pw⟩ ⟨rfl, hx⟩
      have hx : x = nV i := by rw [hx]; show V.int (0 + (i : Int)) = _; rw [Int.zero_add]; rfl
      subst hx
      have gi := getD_at (ps := ps) (i := i) (by omega)
      refine ⟨.ref S, rfl, .inl ⟨rfl, _, .inl (.inl eS)⟩, _, rfl, _, rfl, S, _, _, _, rfl, rfl, SqL.of eS, atI_nat gi, _, _, rfl, rfl, ?_⟩
      refine ⟨_, rfl, _, rfl, d, l, g, rfl, D3, by omega, fun H4 r k4 D4 r1 r2 => ?_⟩
      obtain ⟨j, rfl, hj⟩ := draw_nat (by omega) r1 r2
      have eS4 := k4 _ _ dS.1 eS
      refine ⟨_, _, rfl, rfl, S, _, _, rfl, rfl, eS4, by rw [List.length_map]; exact szN (by omega), ?_⟩
      refine ⟨ps ++ [ps.getD i 0 + 1 + j], _, _, _, _, _, _, rfl, (k3.trans k4).mut nSH, D4.at dS.1 dS.2, by rw [upd_same, List.map_append]; rfl, by rw [List.length_append, ls]; rfl, ?_⟩
      rw [List.pairwise_append]
      refine ⟨pw, List.pairwise_singleton _ _, fun a ha b hb => ?_⟩
      rw [List.mem_singleton.mp hb]
      obtain ⟨k, hk, ek⟩ := List.mem_iff_getElem.mp ha
      have e1 : ps.getD k 0 = a := by rw [List.getD_eq_getElem?_getD, List.getElem?_eq_getElem hk]; exact ek
      by_cases hki : k = i
      · subst hki; omega
      · have := asc_at pw (show k < i by omega) (by omega)
        omega
    · rintro σ' H2 ⟨ps, x5, x6, x7, x8, x9, x10, rfl, k3, D3, eS, ls, pw⟩
      refine ⟨_, rfl, d, l, _, rfl, D3, by decide, fun H3 pl k4 D4 _ _ => ?_⟩
      have eS4 := k4 _ _ dS.1 eS
      refine ⟨by show 0 ≤ sizeLine; decide, fun C nC => ?_⟩
      have dC := D4.nd nC
      have D5 := D4.new (o := .lst []) nC
      have k5 := (k3.trans k4).new (o := .lst []) nC
      have nCH := none_of_kp (k3.trans k4) dC.1 nC
      have nSC : S ≠ C := ne_of_none eS4 nC
      have eS5 : upd H3 C (.lst []) S = some (.lst (ps.map nV)) := by rw [upd_ne nSC]; exact eS4
      refine ⟨_, rfl, (m : Int), rfl, by omega, by omega, ?_⟩
      rw [show (((m : Nat) : Int)).toNat = m from Int.toNat_natCast m]
      refine for_it walk_range (fun i σ' H' => ∃ (us : List V) (cs : List Arc) (x5 x8 x9 x10 : Option V), σ' = [some (.ref d), some (nV n), some (nV m), some (.int g), some (.ref S), x5, some (.int pl), some (.ref C), x8, x9, x10] ∧ CdI d l H n m ps S C i H' us cs) ⟨[], [], _, _, _, _, rfl, k5, D5, eS5, upd_same, LV.nil, rfl, fun _ h => nomatch h⟩ (fun _ _ _ _ _ => trivial) ?_ ?_
      · rintro i x σ' H4 H5 hi ⟨us, cs, x5, x8, x9, x10, rfl, k6, D6, eS6, eC6, lv, lc, hb⟩ ⟨rfl, hx⟩
        refine ⟨_, rfl, _, rfl, d, l, _, rfl, D6, by omega, fun H6 r k7 D7 r1 r2 => ?_⟩
        obtain ⟨f, rfl, hf⟩ := draw_nat (by omega) r1 r2
        refine ⟨_, rfl, _, rfl, _, rfl, _, _, rfl, rfl, d, l, _, rfl, D7, by omega, fun H7 r k8 D8 r1 r2 => ?_⟩
        obtain ⟨sp, rfl, hsp⟩ := draw_nat (by omega) r1 r2
        have hfs : f + (1 + sp) ≤ n := by omega
        have k78 := k7.trans k8
        have eS7 := k78 _ _ dS.1 eS6
        have eC7 := k78 _ _ dC.1 eC6
        have lv7 := lv.mono fun x r z => ArcV.mono z (kpTup D6 k78)
        have lt := asc_at pw (show f < f + (1 + sp) by omega) (by omega)
        have ga := getD_at (ps := ps) (i := f + (1 + sp)) (by omega)
        have gb := getD_at (ps := ps) (i := f) (by omega)
        refine ⟨_, _, rfl, rfl, ?_⟩
        refine ⟨_, rfl, _, rfl, _, rfl, _, _, rfl, rfl, S, _, _, _, rfl, rfl, SqL.of eS7, atI_nat ga, _, rfl, _, rfl, S, _, _, _, rfl, rfl, SqL.of eS7, atI_nat gb, _, _, rfl, rfl, _, _, rfl, rfl, ?_⟩
        obtain ⟨wd, hwd⟩ : ∃ wd : Nat, (ps.getD (f + (1 + sp)) 0 : Int) - (ps.getD f 0 : Int) - 1 = (wd : Int) := ⟨ps.getD (f + (1 + sp)) 0 - ps.getD f 0 - 1, by omega⟩
        refine ⟨fun σ' H' => ∃ (wd : Nat), σ' = [some (.ref d), some (nV n), some (nV m), some (.int g), some (.ref S), some x, some (.int pl), some (.ref C), some (nV f), some (.int (1 + (sp : Int))), some (nV wd)] ∧ Kp d H7 H' ∧ DI d l H', ?_, ?_⟩
        · have eq0 : V.int ((ps.getD (f + (1 + sp)) 0 : Int) - (ps.getD f 0 : Int) - 1) = nV wd := congrArg V.int hwd
          refine ⟨_, rfl, rfl, _, rfl, ite2 (fun _ => ?_) (fun _ => ?_)⟩
          · refine ⟨_, rfl, _, rfl, _, _, rfl, rfl, .inl ⟨by decide, by decide⟩, _, _, rfl, rfl, d, l, _, rfl, D8, by omega, fun H8 r k9 D9 r1 r2 => ?_⟩
            obtain ⟨j, rfl, hj⟩ := draw_nat (by omega) r1 r2
            exact ⟨j, rfl, k9, D9⟩
          · refine ⟨_, rfl, _, _, rfl, rfl, ?_⟩
            by_cases c : (0 : Int) < (ps.getD (f + (1 + sp)) 0 : Int) - (ps.getD f 0 : Int) - 1
            · refine ⟨true, bTr c, ?_⟩
              refine ⟨_, rfl, d, l, 4, rfl, D8, by decide, fun H8 r k9 D9 _ _ => ?_⟩
              refine ⟨rfl, _, rfl, ite2 (fun _ => ?_) (fun _ => ?_)⟩
              · refine ⟨_, rfl, _, _, rfl, rfl, wd - 1, ?_, k9, D9⟩
                have e2 : (ps.getD (f + (1 + sp)) 0 : Int) - (ps.getD f 0 : Int) - 1 - 1 = ((wd - 1 : Nat) : Int) := by omega
                have eq1 : V.int ((ps.getD (f + (1 + sp)) 0 : Int) - (ps.getD f 0 : Int) - 1 - 1) = nV (wd - 1) := congrArg V.int e2
                rw [← eq1]; rfl
              · exact ⟨wd, by rw [← eq0]; rfl, k9, D9⟩
            · exact ⟨false, bFa c, wd, by rw [← eq0]; rfl, Kp.refl _ _, D8⟩
        · rintro σ' H8 ⟨wd, rfl, k9, D9⟩
          refine ⟨fun σ' H' => ∃ (wd : Nat), σ' = [some (.ref d), some (nV n), some (nV m), some (.int g), some (.ref S), some x, some (.int pl), some (.ref C), some (nV f), some (.int (1 + (sp : Int))), some (nV wd)] ∧ Kp d H7 H' ∧ DI d l H', ?_, ?_⟩
          · refine ⟨_, rfl, d, l, 40, rfl, D9, by decide, fun H9 b k10 D10 => ?_⟩
            cases b with
            | true =>
              refine ⟨true, rfl, _, rfl, d, l, 401, rfl, D10, by decide, fun H10 r k11 D11 r1 r2 => ?_⟩
              obtain ⟨j, rfl, hj⟩ := draw_nat (by omega) r1 r2
              exact ⟨j, rfl, (k9.trans k10).trans k11, D11⟩
            | false => exact ⟨false, rfl, wd, rfl, k9.trans k10, D10⟩
          · rintro σ' H9 ⟨wd, rfl, k10, D10⟩
            have eC9 := k10 _ _ dC.1 eC7
            have eS9 := k10 _ _ dS.1 eS7
            have lv9 := lv7.mono fun x r z => ArcV.mono z (kpTup D8 k10)
            refine ⟨.ref C, rfl, .inl ⟨rfl, _, .inl (.inl eC9)⟩, _, rfl, _, rfl, _, rfl, by show 3 ≤ sizeLine; decide, fun B nB => ?_⟩
            have nCB : C ≠ B := ne_of_none eC9 nB
            have nSB : S ≠ B := ne_of_none eS9 nB
            have kB := ((k6.trans k78).trans k10).new (o := .tup [nV f, V.int (1 + (sp : Int)), nV wd]) nB
            have DB := D10.new (o := .tup [nV f, V.int (1 + (sp : Int)), nV wd]) nB
            refine ⟨C, us, _, rfl, rfl, by rw [upd_ne nCB]; exact eC9, szN (by rw [lv.1]; omega), ?_⟩
            refine ⟨us ++ [.ref B], cs ++ [(f, 1 + sp, wd)], _, _, _, _, rfl, kB.mut nCH, DB.at dC.1 dC.2, ?_, upd_same, ?_, by rw [List.length_append, lc]; rfl, ?_⟩
            · rw [upd_ne nSC, upd_ne nSB]; exact eS9
            · have eB : upd H9 B (.tup [nV f, V.int (1 + (sp : Int)), nV wd]) B = some (.tup [nV f, nV (1 + sp), nV wd]) := upd_same
              have lvB : LV (ArcV (upd H9 B (.tup [nV f, V.int (1 + (sp : Int)), nV wd]))) us cs := lv9.mono fun x r z => ArcV.mono z fun a xs e => by rw [upd_ne (ne_of_none e nB)]; exact e
              have eCB : upd H9 B (.tup [nV f, V.int (1 + (sp : Int)), nV wd]) C = some (.lst us) := by rw [upd_ne nCB]; exact eC9
              refine (lvB.snoc (x := .ref B) (r := (f, 1 + sp, wd)) ⟨B, rfl, eB⟩).mono fun x r z => ArcV.mono z fun a xs e => ?_
              have n : a ≠ C := fun z => by rw [z, eCB] at e; cases e
              rw [upd_ne n]; exact e
            · intro r hr
              rcases List.mem_append.mp hr with h | h
              · exact hb r h
              · rw [List.mem_singleton.mp h]
                exact ⟨by show 1 ≤ 1 + sp; omega, hfs⟩
      · rintro σ' H4 ⟨us, cs, x5, x8, x9, x10, rfl, k6, D6, eS6, eC6, lv, lc, hb⟩
        refine ⟨_, rfl, C, us, rfl, .inl ⟨SqL.of eC6, fun B nB => ?_⟩⟩
        refine q _ _ cs (k6.new nB) (D6.new nB) ⟨B, us, rfl, upd_same, lv.mono fun x r z => ArcV.mono z fun a xs e => by rw [upd_ne (ne_of_none e nB)]; exact e⟩ lc hb
def spTable : Sp := fun vs H Q _ => ∃ (d l : Addr), vs = [.ref d] ∧ DI d l H ∧
  ∀ H' a v n cs, Kp d H H' → DI d l H' → H' a = some (.tup [nV n, v]) → CellsV H' v cs → TabOk n cs → cs.length ≤ 500 ∧ n ≤ 11 → Q (.ref a) H'
theorem ok_table (T : Txt K mg) : FnOk P w K mg base CX0 4 T.a_law_table_drawn T.d_law_table_drawn ["_law_d"] spTable := by
  have G_law_draw : FnOk P w K mg base CX0 1 T.a_law_draw T.d_law_draw ["_law_d", "_law_many"] spDraw := ok_draw T
  have G_law_rare : FnOk P w K mg base CX0 2 T.a_law_rare T.d_law_rare ["_law_d", "_law_many"] spRare := ok_rare T
  have G_law_pick : FnOk P w K mg base CX0 2 T.a_law_pick T.d_law_pick ["_law_d", "_law_row"] (spPick K) := ok_pick T
  have G_law_cells_drawn : FnOk P w K mg base CX0 3 T.a_law_cells_drawn T.d_law_cells_drawn ["_law_d", "_law_tracks", "_law_many"] spCells := ok_cells T
  refine T.D_law_table_drawn.F.ok sc_law_table_drawn (fun vs H Q E h => ?_) (fun cdv A outer s H vs Q E hr h => ?_)
  · obtain ⟨d, l, rfl, _⟩ := h
    rfl
  · obtain ⟨d, l, rfl, hD, q⟩ := h
    refine ⟨_, (pss_cons (ps_set (i := 1) sc_law_table_drawn.nd rfl (.inl rfl) (pe_op op_add pe_int (pe_call G_law_draw (hr.mono (by decide)) (by rfl) T.D_law_draw.G T.D_law_draw.F.kp T.D_law_draw.B .nil pass0 (pa_cons (pv 0) (pa_cons pe_int pa_nil)))))
      (pss_cons (ps_set (i := 2) sc_law_table_drawn.nd rfl (.inl rfl) (pe_call G_law_pick (hr.mono (by decide)) (by rfl) T.D_law_pick.G T.D_law_pick.F.kp T.D_law_pick.B .nil pass0 (pa_cons (pv 0) (pa_cons (pe_lst (pa_cons pe_int (pa_cons pe_int (pa_cons pe_int (pa_cons pe_int (pa_cons pe_int (pa_cons pe_int pa_nil))))))) pa_nil))))
      (Evl.pss_cut (ps_if (pt_val (pe_call G_law_rare (hr.mono (by decide)) (by rfl) T.D_law_rare.G T.D_law_rare.F.kp T.D_law_rare.B .nil pass0 (pa_cons (pv 0) (pa_cons pe_int pa_nil)))) (pss_cons (ps_set (i := 1) sc_law_table_drawn.nd rfl (.inl rfl) (pe_op op_add pe_int (pe_call G_law_draw (hr.mono (by decide)) (by rfl) T.D_law_draw.G T.D_law_draw.F.kp T.D_law_draw.B .nil pass0 (pa_cons (pv 0) (pa_cons pe_int pa_nil)))))
      (pss_one (ps_set (i := 2) sc_law_table_drawn.nd rfl (.inl rfl) (pe_op op_add (pv 2) (pe_call G_law_draw (hr.mono (by decide)) (by rfl) T.D_law_draw.G T.D_law_draw.F.kp T.D_law_draw.B .nil pass0 (pa_cons (pv 0) (pa_cons pe_int pa_nil))))))) pss_nil)
      (pss_one (ps_ret (pe_tup (pa_cons (pv 1) (pa_cons (pe_call G_law_cells_drawn (hr.mono (by decide)) (by rfl) T.D_law_cells_drawn.G T.D_law_cells_drawn.F.kp T.D_law_cells_drawn.B .nil pass0 (pa_cons (pv 0) (pa_cons (pv 1) (pa_cons (pv 2) pa_nil)))) pa_nil)))))))), ?_⟩
    refine ⟨_, rfl, d, l, _, rfl, hD, by decide, fun H1 r k1 D1 r1 r2 => ?_⟩
    obtain ⟨j, rfl, hj⟩ := draw_nat (by omega) r1 r2
    refine ⟨_, _, rfl, rfl, ?_⟩
    refine ⟨_, rfl, Nat.le_of_lt (szN (by show _ < 100000; simp)), fun M nM => ?_⟩
    refine ⟨d, l, .ref M, _, rfl, D1.new nM, .inl ⟨M, rfl, (D1.nd nM).1, SqL.of upd_same⟩, Nat.succ_pos _, by show _ ≤ 1000; simp, fun H2 v k2 D2 hv => ?_⟩
    have k2 := (k1.new nM).trans k2
    have hv2 := List.all_eq_true.mp (show List.all _ isM = true from rfl) v hv
    obtain ⟨m, rfl, m14⟩ := isM_of hv2
    refine ⟨fun σ' H' => ∃ n m : Nat, σ' = [some (.ref d), some (nV n), some (nV m)] ∧ Kp d H H' ∧ DI d l H' ∧ 1 ≤ n ∧ n ≤ 11 ∧ m ≤ 100, ?_, ?_⟩
    · refine ⟨_, rfl, d, l, 8, rfl, D2, by decide, fun H3 b k3 D3 => ?_⟩
      cases b with
      | true =>
        refine ⟨true, rfl, _, rfl, d, l, _, rfl, D3, by decide, fun H4 r k4 D4 r1 r2 => ?_⟩
        obtain ⟨j2, rfl, hj2⟩ := draw_nat (by omega) r1 r2
        refine ⟨_, _, rfl, rfl, _, rfl, _, rfl, d, l, _, rfl, D4, by decide, fun H5 r k5 D5 r1 r2 => ?_⟩
        obtain ⟨j3, rfl, hj3⟩ := draw_nat (by omega) r1 r2
        refine ⟨_, _, rfl, rfl, ?_⟩
        first
          | exact ⟨9 + j2, m + j3, rfl, ((k2.trans k3).trans k4).trans k5, D5, by omega, by omega, by omega⟩
          | exact ⟨7 + j2, m + j3, rfl, ((k2.trans k3).trans k4).trans k5, D5, by omega, by omega, by omega⟩
      | false => exact ⟨false, rfl, 1 + j, m, rfl, k2.trans k3, D3, by omega, by omega, by omega⟩
    · rintro σ' H3 ⟨n, m, rfl, k3, D3, n1, n11, m100⟩
      refine ⟨_, rfl, _, rfl, _, rfl, _, rfl, d, l, n, m, rfl, D3, n1, by omega, by omega, fun H4 v cs k4 D4 hv hl hb => ?_⟩
      refine ⟨by show 2 ≤ sizeLine; decide, fun B nB => ?_⟩
      exact q _ B v n cs ((k3.trans k4).new nB) (D4.new nB) upd_same (hv.mono fun a xs e => by rw [upd_ne (ne_of_none e nB)]; exact e) ⟨n1, by omega, by omega, hb⟩ ⟨by omega, n11⟩
end
end Vf

set_option Elab.async false
set_option linter.all false
set_option maxRecDepth 100000
set_option maxHeartbeats 4000000
namespace Vf
open PySem PySem.Spec PyProof.Rows L2 TL
/-! ### min of a list of tuples of ints -/
def dI (c : List Int) : PyData := .tuple (c.map .int)
theorem dl_lt (xs ys : List Int) : PySem.W.dataLt (dI xs) (dI ys) = decide (xs < ys) := by
  unfold dI
  rw [PySem.W.dataLt_tuple]
  exact PySem.W.dataLt_ints xs ys
theorem alike_ints : ∀ xs ys : List Int, PySem.W.alikeAll (xs.map .int) (ys.map .int) = true
  | [], ys => by
    cases ys <;> simp [PySem.W.alikeAll]
  | x :: xs, [] => by simp [PySem.W.alikeAll]
  | x :: xs, y :: ys => by
    simp only [List.map_cons, PySem.W.alikeAll, PySem.W.alike, Bool.true_and]
    exact alike_ints xs ys
theorem depth_ints : ∀ xs : List Int, PyData.depthAll (xs.map .int) = 0
  | [] => rfl
  | x :: xs => by
    simp only [List.map_cons, PyData.depthAll, PyData.depth]
    rw [depth_ints xs]; rfl
theorem depth_dI : ∀ cs : List (List Int), PyData.depthAll (cs.map dI) ≤ 1
  | [] => Nat.zero_le _
  | c :: cs => by
    have := depth_dI cs
    simp only [List.map_cons, PyData.depthAll, dI, PyData.depth]
    rw [depth_ints c]
    omega
theorem minD_dI : ∀ (cs : List (List Int)) (c : List Int), PySem.W.minD (dI c) (cs.map dI) = dI (cs.foldl (fun a y => if y < a then y else a) c) := by
  intro cs
  unfold PySem.W.minD
  induction cs with
  | nil => intro c; rfl
  | cons k r ih =>
    intro c
    rw [List.map_cons, List.foldl_cons, List.foldl_cons, ← ih, dl_lt]
    by_cases h : k < c
    · rw [if_pos h, if_pos (decide_eq_true h)]
    · rw [if_neg h, if_neg (by rw [decide_eq_false h]; decide)]
theorem lex_tri : ∀ a b : List Int, a < b ∨ a = b ∨ b < a
  | [], [] => .inr (.inl rfl)
  | [], _ :: _ => .inl .nil
  | _ :: _, [] => .inr (.inr .nil)
  | x :: a, y :: b => by
    rcases Int.lt_trichotomy x y with h | h | h
    · exact .inl (.rel h)
    · subst h
      rcases lex_tri a b with h | h | h
      · exact .inl (.cons h)
      · exact .inr (.inl (by rw [h]))
      · exact .inr (.inr (.cons h))
    · exact .inr (.inr (.rel h))
theorem lex_irr : ∀ {a : List Int}, ¬ a < a
  | [], h => by cases h
  | x :: a, h => by
    cases h with
    | rel h => omega
    | cons h => exact lex_irr h
theorem lex_tr : ∀ {a b c : List Int}, a < b → b < c → a < c
  | [], [], _, h, _ => by cases h
  | [], _ :: _, [], _, h => by cases h
  | [], _ :: _, _ :: _, _, _ => .nil
  | _ :: _, [], _, h, _ => by cases h
  | _ :: _, _ :: _, [], _, h => by cases h
  | x :: a, y :: b, z :: c, h, k => by
    cases h with
    | rel h =>
      cases k with
      | rel k => exact .rel (Int.lt_trans h k)
      | cons k => exact .rel h
    | cons h =>
      cases k with
      | rel k => exact .rel k
      | cons k => exact .cons (lex_tr h k)
theorem foldmin : ∀ (cs : List (List Int)) (c : List Int), ∀ y ∈ c :: cs, ¬ y < cs.foldl (fun a y => if y < a then y else a) c := by
  intro cs
  induction cs with
  | nil =>
    intro c y hy
    rw [List.mem_singleton.mp hy]; exact lex_irr
  | cons z cs ih =>
    intro c y hy
    rw [List.foldl_cons]
    have h := ih (if z < c then z else c)
    have h0 := h _ List.mem_cons_self
    by_cases hz : z < c
    · rw [if_pos hz] at h h0 ⊢
      rcases List.mem_cons.mp hy with e | e
      · subst e
        exact fun k => h0 (lex_tr hz k)
      · exact h y e
    · rw [if_neg hz] at h h0 ⊢
      rcases List.mem_cons.mp hy with e | e
      · rw [e]; exact h0
      · rcases List.mem_cons.mp e with e | e
        · subst e
          intro k
          rcases lex_tri y c with h1 | h1 | h1
          · exact hz h1
          · rw [h1] at k; exact h0 k
          · exact h0 (lex_tr h1 k)
        · exact h y (List.mem_cons_of_mem _ e)
def rMinT (K : PySem.W.Frag) : List V → Hp → VK → Prop := fun vs H Q => ∃ (a : Addr) (us : List V) (cs : List (List Int)), vs = [V.ref a] ∧ SqL K H a us ∧ us.length = cs.length ∧ (∀ (i : Nat) u c, us[i]? = some u → cs[i]? = some c → ∃ p, u = .ref p ∧ SqT K H p (c.map V.int)) ∧ 0 < cs.length ∧
  ∀ (i : Nat) u c, us[i]? = some u → cs[i]? = some c → (∀ y ∈ cs, ¬ y < c) → Q u H
theorem dp_ints {K : PySem.W.Frag} {H : Hp} : ∀ xs : List Int, DpAll K H (xs.map V.int) (xs.map .int)
  | [] => .nil
  | x :: xs => .cons (.int x) (dp_ints xs)
theorem dp_all {K : PySem.W.Frag} {H : Hp} : ∀ {us : List V} {cs : List (List Int)}, us.length = cs.length → (∀ (i : Nat) u c, us[i]? = some u → cs[i]? = some c → ∃ p, u = .ref p ∧ SqT K H p (c.map V.int)) → DpAll K H us (cs.map dI)
  | [], [], _, _ => .nil
  | [], _ :: _, h, _ => by cases h
  | _ :: _, [], h, _ => by cases h
  | u :: us, c :: cs, h, k => by
    obtain ⟨p, rfl, e⟩ := k 0 u c rfl rfl
    exact .cons (.tup e (dp_ints c)) (dp_all (Nat.succ.inj h) fun i u c hu hc => k (i + 1) u c hu hc)
theorem call_minT {X : Cx} (hc : X.calm = true) (hu : X.A.units + 64 < cLine) : CallR X (.builtin "min") (rMinT X.K) := by
  intro pins s σ H vs us' Q I r h
  obtain ⟨a, us, cs, rfl, hs, hl0, hk, hne, q⟩ := h
  obtain ⟨its, rv, hl, _⟩ := I.list hs
  rw [Vals.ref1 r]
  have hd := dp_all hl0 hk
  obtain ⟨as, hr⟩ := Dp.readsAll I _ _ _ hd rv
  cases cs with
  | nil => exact absurd hne (Nat.lt_irrefl 0)
  | cons c cs =>
    have dd := depth_dI (c :: cs)
    refine PySem.W.min_list_data (x := dI c) (xs := cs.map dI) (I.ok.hd hc) hl.isList hr ⟨fun x hx y hy => ?_, fun x hx => ?_⟩ ?_ fun i v h' tk bs hi rd hkp => ?_
    · obtain ⟨x, _, rfl⟩ := List.mem_map.mp (show x ∈ (c :: cs).map dI from hx)
      obtain ⟨y, _, rfl⟩ := List.mem_map.mp (show y ∈ (c :: cs).map dI from hy)
      simp only [dI, PySem.W.alike]
      exact alike_ints x y
    · obtain ⟨x, _, rfl⟩ := List.mem_map.mp (show x ∈ (c :: cs).map dI from hx)
      intro z; cases z
    · have e : PyData.depthAll (dI c :: cs.map dI) = PyData.depthAll ((c :: cs).map dI) := rfl
      rw [e]; omega
    · have hlen := rv.length
      have hi2 : i < its.length := by
        have := (Array.getElem?_eq_some_iff.mp hi).1
        simpa using this
      have gu : us[i]? = some us[i] := List.getElem?_eq_getElem (by omega)
      have gc : (c :: cs)[i]? = some (c :: cs)[i] := List.getElem?_eq_getElem (by omega)
      obtain ⟨v2, e2, r2⟩ := Vals.get rv gu
      have ev : v2 = v := by
        have h1 : its[i]? = some v := by simpa using hi
        rw [e2] at h1
        exact Option.some.inj h1
      subst ev
      obtain ⟨bs2, rd2, _, _, _⟩ := PySem.W.readsAll_at hr i v2 (by simpa using hi)
      have eg : ((c :: cs).map dI).getD i .none = dI (c :: cs)[i] := by
        have : ((c :: cs).map dI)[i]? = some (dI (c :: cs)[i]) := by rw [List.getElem?_map, gc]; rfl
        rw [List.getD_eq_getElem?_getD, this]; rfl
      rw [eg] at rd2
      have eu := (Reads.unique (PySem.W.reads_keeps hkp rd2) _ _ rd).1
      rw [minD_dI] at eu
      have em : (c :: cs)[i] = cs.foldl (fun a y => if y < a then y else a) c := by
        have h1 := PyData.tuple.inj eu
        exact List.map_inj_right (fun a b h => PyData.int.inj h) |>.mp h1
      refine ⟨us[i], H, I.kept hkp, r2, q i _ _ gu gc fun y hy => ?_⟩
      rw [em]
      exact foldmin cs c y hy
end Vf

set_option Elab.async false
set_option linter.all false
set_option maxRecDepth 100000
set_option maxHeartbeats 4000000
namespace Vf
open PySem PySem.Spec PyProof.Rows L2 TL
/-! ### chains of a table, the rests, the least of the best -/
inductive Ch (cs : List Arc) : Nat → List Nat → Nat → Nat → Prop
  | nil (a : Nat) : Ch cs a [] a 0
  | cons {a j b e s : Nat} {xs : List Nat} (h : a < j) (d : dem cs a j = some e) (c : Ch cs j xs b s) : Ch cs a (j :: xs) b (e + s)
theorem Ch.le {cs : List Arc} {a b s : Nat} {xs : List Nat} (h : Ch cs a xs b s) : a ≤ b := by
  induction h with
  | nil => exact Nat.le_refl _
  | cons h _ _ ih => omega
theorem Ch.self {cs : List Arc} {b s : Nat} {xs : List Nat} (h : Ch cs b xs b s) : xs = [] ∧ s = 0 := by
  cases h with
  | nil => exact ⟨rfl, rfl⟩
  | cons h _ c => have := c.le; omega
theorem Ch.snoc {cs : List Arc} {a j b s e : Nat} {xs : List Nat} (h : Ch cs a xs j s) (hj : j < b) (d : dem cs j b = some e) : Ch cs a (xs ++ [b]) b (s + e) := by
  induction h with
  | nil a =>
    have := Ch.cons hj d (Ch.nil b)
    rw [Nat.add_zero] at this
    rw [Nat.zero_add]; exact this
  | cons h1 d1 c ih => rw [Nat.add_assoc]; exact Ch.cons h1 d1 (ih hj d)
theorem Ch.unsnoc {cs : List Arc} {a b s : Nat} {xs : List Nat} (h : Ch cs a xs b s) : a < b → ∃ ys j s' e, xs = ys ++ [b] ∧ Ch cs a ys j s' ∧ j < b ∧ dem cs j b = some e ∧ s = s' + e := by
  induction h with
  | nil a => intro h; omega
  | @cons a j b e s xs h d c ih =>
    intro _
    by_cases hj : j < b
    · obtain ⟨ys, k, s', e', rfl, h1, h2, h3, rfl⟩ := ih hj
      exact ⟨j :: ys, k, e + s', e', rfl, Ch.cons h d h1, h2, h3, by omega⟩
    · have ej : j = b := by have := c.le; omega
      subst ej
      obtain ⟨rfl, rfl⟩ := c.self
      exact ⟨[], a, 0, e, rfl, Ch.nil a, h, d, by omega⟩
theorem Ch.len {cs : List Arc} {a b s : Nat} {xs : List Nat} (h : Ch cs a xs b s) : a + xs.length ≤ b := by
  induction h with
  | nil => exact Nat.le_refl _
  | cons h _ _ ih => rw [List.length_cons]; omega
theorem Ch.ex (cs : List Arc) (b : Nat) : ∀ k a, a + k = b → ∃ xs s, Ch cs a xs b s
  | 0, a, h => by
    have : a = b := h
    subst this
    exact ⟨[], 0, Ch.nil a⟩
  | k + 1, a, h => by
    obtain ⟨e, he⟩ := dem_next cs a
    obtain ⟨xs, s, c⟩ := Ch.ex cs b k (a + 1) (by omega)
    exact ⟨_, _, Ch.cons (Nat.lt_succ_self a) he c⟩
theorem Ch.same {cs cs' : List Arc} (m : ∀ r, r ∈ cs ↔ r ∈ cs') {a b s : Nat} {xs : List Nat} (h : Ch cs a xs b s) : Ch cs' a xs b s := by
  induction h with
  | nil a => exact Ch.nil a
  | cons h d _ ih => exact Ch.cons h (by rw [← dem_same m]; exact d) ih
/-- v is the largest sum of a chain from a to b -/
def RM (cs : List Arc) (b a v : Nat) : Prop := (∃ xs, Ch cs a xs b v) ∧ ∀ xs s, Ch cs a xs b s → s ≤ v
theorem rm_self (cs : List Arc) (b : Nat) : RM cs b b 0 := ⟨⟨[], Ch.nil b⟩, fun xs s h => by rw [h.self.2]; exact Nat.le_refl 0⟩
theorem RM.uniq {cs : List Arc} {b a v w : Nat} (h : RM cs b a v) (k : RM cs b a w) : v = w := by
  obtain ⟨x, hx⟩ := h.1
  obtain ⟨y, hy⟩ := k.1
  have := h.2 _ _ hy
  have := k.2 _ _ hx
  omega
theorem rm_step {cs : List Arc} {b a m : Nat} {R : Nat → Nat} (hab : a < b) (hR : ∀ j, a < j → j ≤ b → RM cs b j (R j))
    (h1 : ∃ j e, a < j ∧ j ≤ b ∧ dem cs a j = some e ∧ m = e + R j) (h2 : ∀ j e, a < j → j ≤ b → dem cs a j = some e → e + R j ≤ m) : RM cs b a m := by
  obtain ⟨j, e, j1, j2, d, rfl⟩ := h1
  obtain ⟨xs, hx⟩ := (hR j j1 j2).1
  refine ⟨⟨_, Ch.cons j1 d hx⟩, fun ys s hy => ?_⟩
  cases hy with
  | nil => omega
  | @cons _ i _ e' s' zs hi di ci =>
    have hib := ci.le
    have h3 := (hR i hi hib).2 _ _ ci
    have h4 := h2 i e' hi hib di
    omega
def SD (pre xs : List Nat) : Prop := ∃ p u v r r', pre = p ++ u :: r ∧ xs = p ++ v :: r' ∧ u < v
theorem SD.app {pre xs : List Nat} (h : SD pre xs) (z : List Nat) : SD (pre ++ z) xs := by
  obtain ⟨p, u, v, r, r', rfl, rfl, l⟩ := h
  exact ⟨p, u, v, r ++ z, r', by rw [List.append_assoc]; rfl, rfl, l⟩
theorem SD.lt {pre xs : List Nat} (h : SD pre xs) : pre.map (fun x : Nat => (x : Int)) < xs.map (fun x : Nat => (x : Int)) := by
  obtain ⟨p, u, v, r, r', rfl, rfl, l⟩ := h
  rw [List.map_append, List.map_append, List.map_cons, List.map_cons]
  generalize p.map (fun x : Nat => (x : Int)) = q
  induction q with
  | nil => exact List.Lex.rel (by show (u : Int) < (v : Int); omega)
  | cons z q ih => exact List.Lex.cons ih
/-- the greedy chain so far -/
def GI (cs : List Arc) (b : Nat) (R : Nat → Nat) (pre : List Nat) (a : Nat) : Prop := ∃ s0, Ch cs 0 pre a s0 ∧ s0 + R a = R 0 ∧ ∀ xs, Ch cs 0 xs b (R 0) → (∃ zs, xs = pre ++ zs ∧ Ch cs a zs b (R a)) ∨ SD pre xs
theorem gi_start (cs : List Arc) (b : Nat) (R : Nat → Nat) : GI cs b R [] 0 := ⟨0, Ch.nil 0, Nat.zero_add _, fun xs h => .inl ⟨xs, rfl, h⟩⟩
theorem gi_next {cs : List Arc} {b a : Nat} {R : Nat → Nat} (hab : a < b) (hR : ∀ j, j ≤ b → RM cs b j (R j)) : ∃ j e, a < j ∧ j ≤ b ∧ dem cs a j = some e ∧ R a ≤ e + R j := by
  obtain ⟨xs, h⟩ := (hR a (by omega)).1
  generalize hv : R a = v at h
  cases h with
  | nil => omega
  | @cons _ j _ e s zs hj d c =>
    have := (hR j c.le).2 _ _ c
    exact ⟨j, e, hj, c.le, d, by omega⟩
theorem gi_step {cs : List Arc} {b a j e : Nat} {R : Nat → Nat} {pre : List Nat} (g : GI cs b R pre a) (hab : a < b) (hR : ∀ j, j ≤ b → RM cs b j (R j))
    (hj : a < j) (hjb : j ≤ b) (d : dem cs a j = some e) (hge : R a ≤ e + R j) (low : ∀ i e', a < i → i < j → dem cs a i = some e' → e' + R i < R a) : GI cs b R (pre ++ [j]) j := by
  obtain ⟨s0, c0, es, hx⟩ := g
  obtain ⟨ys, hy⟩ := (hR j hjb).1
  have h1 := (hR a (by omega)).2 _ _ (Ch.cons hj d hy)
  refine ⟨s0 + e, c0.snoc hj d, by omega, fun xs h => ?_⟩
  rcases hx xs h with ⟨zs, rfl, cz⟩ | h
  · generalize hv : R a = v at cz
    cases cz with
    | nil => omega
    | @cons _ i _ e' s' zs' hi di ci =>
      have h3 := (hR i ci.le).2 _ _ ci
      rcases Nat.lt_trichotomy i j with h4 | h4 | h4
      · have := low i e' hi h4 di
        omega
      · subst h4
        rw [d] at di
        have := Option.some.inj di
        subst this
        have es2 : s' = R i := by omega
        subst es2
        exact .inl ⟨zs', by rw [List.append_assoc]; rfl, ci⟩
      · exact .inr ⟨pre, j, i, [], zs', rfl, rfl, h4⟩
  · exact .inr (h.app [j])
theorem gi_end {cs : List Arc} {b : Nat} {R : Nat → Nat} {pre : List Nat} (g : GI cs b R pre b) (hb : R b = 0) : Ch cs 0 pre b (R 0) ∧ ∀ xs, Ch cs 0 xs b (R 0) → xs = pre ∨ SD pre xs := by
  obtain ⟨s0, c0, es, hx⟩ := g
  have e : s0 = R 0 := by omega
  subst e
  refine ⟨c0, fun xs h => ?_⟩
  rcases hx xs h with ⟨zs, rfl, cz⟩ | h
  · left; rw [cz.self.1, List.append_nil]
  · exact .inr h
end Vf

set_option Elab.async false
set_option linter.all false
set_option maxRecDepth 100000
set_option maxHeartbeats 4000000
namespace Vf
open PySem PySem.Spec PyProof.Rows L2 TL
/-! ### the least of the best chains -/
def PairE (H : Hp) (x : V) (r : Nat × List Nat) : Prop := ∃ b p, x = .ref b ∧ H b = some (.tup [nV r.1, .ref p]) ∧ H p = some (.tup (r.2.map nV))
theorem PairE.mono {H H' : Hp} {x : V} {r : Nat × List Nat} (h : PairE H x r) (k : ∀ a xs, H a = some (.tup xs) → H' a = some (.tup xs)) : PairE H' x r := by
  obtain ⟨b, p, e, h1, h2⟩ := h
  exact ⟨b, p, e, k _ _ h1, k _ _ h2⟩
section
variable {P : Program} {w : World} {K : PySem.W.Frag} {mg : Str → Option Value} {base : Heap}
def iL (c : List Nat) : List Int := c.map fun x : Nat => (x : Int)
theorem nv_int (c : List Nat) : c.map nV = (iL c).map V.int := by
  unfold iL; rw [List.map_map]; rfl
def spLeast : Sp := fun vs H Q _ => ∃ (L : Addr) (us : List V) (rows : List (Nat × List Nat)), vs = [.ref L] ∧ H L = some (.lst us) ∧ LV (PairE H) us rows ∧ 0 < rows.length ∧ rows.length ≤ 2000 ∧
  ∀ H' p t c, Same H H' → H' p = some (.tup (c.map nV)) → (t, c) ∈ rows → (∀ r ∈ rows, r.1 ≤ t) → (∀ c', (t, c') ∈ rows → ¬ iL c' < iL c) → Q (.ref p) H'
theorem ok_least (T : Txt K mg) : FnOk P w K mg base CX0 1 T.a_law_least_chain T.d_law_least_chain ["_law_rows"] spLeast := by
  refine T.D_law_least_chain.F.ok sc_law_least_chain (fun vs H Q E h => ?_) (fun cdv A outer s H vs Q E hr h => ?_)
  · obtain ⟨L, us, rows, rfl, _⟩ := h
    rfl
  · obtain ⟨L, us, rows, rfl, eL, lv, h0, h2, q⟩ := h
    refine ⟨_, (pss_cons (ps_set (i := 1) sc_law_least_chain.nd rfl (.inr rfl) (pe_callB (cr_max (by rfl)) (by rfl) T.n_max (by decide +kernel) (pa_cons (pe_lc (own := [("_law_total", 2), ("_law_chain", 3)]) (g := (gTup K 2 (gCons (gName 2) (gCons (gName 3) gNil)))) (tt := tYes) rfl sc_law_least_chain.nd (pi_list (pv 0)) (blkOk_by (own := [("_law_total", 2), ("_law_chain", 3)]) (N := ["_law_rows", "_law_top", "_law_total", "_law_chain"]) (sc := defScope s_law_least_chain) (by decide +kernel)) (fun _ _ _ _ _ => (pg_tup (by rfl) (pgs_cons (pg_name (i := 2) sc_law_least_chain.nd rfl (.inl rfl)) (pgs_cons (pg_name (i := 3) sc_law_least_chain.nd rfl (.inl rfl)) pgs_nil)))) (fun _ _ _ _ _ => pts_nil) (fun _ _ _ _ _ => (pv 2))) pa_nil)))
      (pss_one (ps_ret (pe_callB (call_minT (by rfl) (Room.units hr)) (by rfl) T.n_min (by decide +kernel) (pa_cons (pe_lc (own := [("_law_total", 2), ("_law_chain", 3)]) (g := (gTup K 2 (gCons (gName 2) (gCons (gName 3) gNil)))) rfl sc_law_least_chain.nd (pi_list (pv 0)) (blkOk_by (own := [("_law_total", 2), ("_law_chain", 3)]) (N := ["_law_rows", "_law_top", "_law_total", "_law_chain"]) (sc := defScope s_law_least_chain) (by decide +kernel)) (fun _ _ _ _ _ => (pg_tup (by rfl) (pgs_cons (pg_name (i := 2) sc_law_least_chain.nd rfl (.inl rfl)) (pgs_cons (pg_name (i := 3) sc_law_least_chain.nd rfl (.inl rfl)) pgs_nil)))) (fun _ _ _ _ _ => (pts_one (pt_cmpR op_eq (pv 2) (pv 1) (nomark _)))) (fun _ _ _ _ _ => (pv 3))) pa_nil))))), ?_⟩
    refine ⟨_, rfl, L, rfl, ⟨_, SqL.of eL⟩, fun D nD => ?_⟩
    refine lc_it (walk_list (K := K) (a := L) (xs := us)) (fun i H' => Same H H' ∧ H' D = some (.lst ((rows.take i).map fun r => nV r.1))) ⟨same_upd (Same.refl H) nD, upd_same⟩ ?_ ?_ ?_
    · rintro i H' _ ⟨k, _⟩
      exact SqL.of (k _ _ eL)
    · rintro i x H1 H2 hi ⟨k, eD⟩ ⟨rfl, hx⟩
      obtain ⟨r, hr, b, p, rfl, e1, e2⟩ := lv.at hx
      have hi2 : i < rows.length := (List.getElem?_eq_some_iff.mp hr).1
      refine ⟨b, _, rfl, SqT.of (k _ _ e1), rfl, _, _, rfl, _, _, rfl, rfl, rfl, ?_⟩
      refine ⟨_, rfl, _, eD, szN (by rw [List.length_map, List.length_take]; omega), same_mut k nD, ?_⟩
      rw [upd_same, take_succ' hr, List.map_append]; rfl
    rintro H1 ⟨k1, eD⟩
    rw [show us.length = rows.length from lv.1, List.take_length] at eD
    refine ⟨D, rows.map (fun r => ((r.1 : Nat) : Int)), rfl, SqL.of (by rw [eD, List.map_map]; rfl), by rw [List.length_map]; exact h0, fun m hm hM => ?_⟩
    obtain ⟨r0, hr0, rfl⟩ := List.mem_map.mp hm
    obtain ⟨t0, c9⟩ := r0
    have hr9 : (t0, c9) ∈ rows := hr0
    have hM : ∀ y ∈ rows.map (fun r => ((r.1 : Nat) : Int)), y ≤ (t0 : Int) := hM
    clear hm hr0
    have eL1 := k1 _ _ eL
    refine ⟨_, rfl, L, rfl, ⟨_, SqL.of eL1⟩, fun D2 nD2 => ?_⟩
    refine lc_it (walk_list (K := K) (a := L) (xs := us)) (fun i H' => Same H1 H' ∧ ∃ zs : List V, H' D2 = some (.lst zs) ∧ zs.length ≤ i ∧ LV (fun x c => ∃ p, x = .ref p ∧ H' p = some (.tup (c.map nV))) zs (((rows.take i).filter fun r => decide (r.1 = t0)).map Prod.snd)) ⟨same_upd (Same.refl H1) nD2, [], upd_same, Nat.le_refl 0, by rw [List.take_zero]; exact LV.nil⟩ ?_ ?_ ?_
    · rintro i H' _ ⟨k, _⟩
      exact SqL.of (k _ _ eL1)
    · rintro i x H2 H3 hi ⟨k, zs, eD2, lz, hz⟩ ⟨rfl, hx⟩
      obtain ⟨r, hr, b, p, rfl, e1, e2⟩ := lv.at hx
      have hi2 : i < rows.length := (List.getElem?_eq_some_iff.mp hr).1
      have kk := k1.trans k
      refine ⟨b, _, rfl, SqT.of (kk _ _ e1), rfl, _, _, rfl, _, _, rfl, rfl, rfl, ?_⟩
      refine ⟨_, rfl, _, rfl, rfl, decide (r.1 = t0), ?_, ?_⟩
      · exact congrArg V.bl (decide_eq_decide.mpr ⟨fun e => Int.ofNat.inj (V.int.inj e), fun e => by rw [e]; rfl⟩)
      have et : rows.take (i + 1) = rows.take i ++ [r] := take_succ' hr
      by_cases c : r.1 = t0
      · rw [decide_eq_true c]
        have tm : ∀ a xs, H3 a = some (.tup xs) → upd H3 D2 (.lst (zs ++ [V.ref p])) a = some (.tup xs) := fun a xs h => by
          rw [upd_ne (fun z => by rw [z, eD2] at h; cases h)]; exact h
        refine ⟨_, rfl, zs, eD2, szN (by omega), same_mut k nD2, zs ++ [.ref p], upd_same, by rw [List.length_append]; show _ + 1 ≤ _; omega, ?_⟩
        rw [et, List.filter_append, List.map_append, List.filter_cons_of_pos (by simpa using c)]
        exact (hz.mono fun x c ⟨p, e, h⟩ => ⟨p, e, tm _ _ h⟩).snoc ⟨p, rfl, tm _ _ (kk _ _ e2)⟩
      · rw [decide_eq_false c]
        refine ⟨k, zs, eD2, by omega, ?_⟩
        rw [et, List.filter_append, List.map_append, List.filter_cons_of_neg (by simpa using c)]
        show LV _ zs (_ ++ [])
        rw [List.append_nil]; exact hz
    rintro H2 ⟨k2, zs, eD2, lz, hz⟩
    rw [show us.length = rows.length from lv.1, List.take_length] at hz
    have hmem : ∀ c, c ∈ (rows.filter fun r => decide (r.1 = t0)).map Prod.snd ↔ (t0, c) ∈ rows := fun c => by
      constructor
      · intro h
        obtain ⟨r, hr, rfl⟩ := List.mem_map.mp h
        obtain ⟨h1, h2⟩ := List.mem_filter.mp hr
        have h2 : r.1 = t0 := by simpa using h2
        rw [← h2]; exact h1
      · intro h
        exact List.mem_map.mpr ⟨(t0, c), List.mem_filter.mpr ⟨h, by simp⟩, rfl⟩
    generalize (rows.filter fun r => decide (r.1 = t0)).map Prod.snd = bs at hz hmem
    have hbs : 0 < bs.length := List.length_pos_of_mem ((hmem c9).mpr hr9)
    refine ⟨D2, zs, bs.map iL, rfl, SqL.of eD2, by rw [List.length_map]; exact hz.1, fun i u c hu hc => ?_, by rw [List.length_map]; exact hbs, fun i u c hu hc hmin => ?_⟩
    · obtain ⟨c0, h1, p, h2, h3⟩ := hz.at hu
      rw [List.getElem?_map, h1] at hc
      have hc := Option.some.inj hc
      subst hc
      exact ⟨p, h2, SqT.of (by rw [h3, nv_int])⟩
    · obtain ⟨c0, h1, p, rfl, h3⟩ := hz.at hu
      rw [List.getElem?_map, h1] at hc
      have hc := Option.some.inj hc
      subst hc
      refine q H2 p t0 c0 (k1.trans k2) h3 ((hmem c0).mp (List.mem_of_getElem? h1)) (fun r hr => ?_) fun c' hc' => hmin _ (List.mem_map.mpr ⟨c', (hmem c').mpr hc', rfl⟩)
      have := hM _ (List.mem_map.mpr ⟨r, hr, rfl⟩)
      omega
end
end Vf

set_option Elab.async false
set_option linter.all false
set_option maxRecDepth 100000
set_option maxHeartbeats 4000000
namespace Vf
open PySem PySem.Spec PyProof.Rows L2 TL
/-! ### all chains, exactly -/
theorem catA_any {K : PySem.W.Frag} {a b : Addr} {xs ys : List V} {H : Hp} {Q : VK} (ea : H a = some (.tup xs)) (eb : H b = some (.tup ys)) (hl : xs.length + ys.length ≤ sizeLine) (q : ∀ c H', Same H H' → H' c = some (.tup (xs ++ ys)) → Q (.ref c) H') : rCatA K (.ref a) (.ref b) H Q := by
  refine ⟨a, b, xs, ys, rfl, rfl, SqT.of ea, SqT.of eb, hl, fun h => q b H (Same.refl H) ?_, fun _ h => q a H (Same.refl H) ?_, fun _ _ p np => q p _ (same_upd (Same.refl H) np) upd_same⟩
  · rw [h]; exact eb
  · rw [h, List.append_nil]; exact ea
def pw : Nat → Nat
  | 0 => 1
  | i + 1 => 2 ^ i
def pc : Nat → Nat
  | 0 => 0
  | i + 1 => 2 ^ i
theorem pc_succ : ∀ j, pc (j + 1) = pc j + pw j
  | 0 => rfl
  | j + 1 => by show 2 ^ (j + 1) = 2 ^ j + 2 ^ j; rw [Nat.pow_succ]; omega
theorem pw_le {i : Nat} (h : i ≤ 11) : pw i ≤ 1024 := by
  cases i with
  | zero => decide
  | succ i =>
    have := Nat.pow_le_pow_right (n := 2) (by decide) (show i ≤ 10 by omega)
    exact this
theorem pc_le {i : Nat} (h : i ≤ 11) : pc i ≤ 1024 := by
  cases i with
  | zero => decide
  | succ i =>
    have := Nat.pow_le_pow_right (n := 2) (by decide) (show i ≤ 10 by omega)
    exact this
/-- one row of chains; F: the list of the rows -/
def ChE (cs : List Arc) (F : Addr) (H : Hp) (v : V) (i : Nat) : Prop := ∃ (L : Addr) (us : List V) (rows : List (Nat × List Nat)), v = .ref L ∧ L ≠ F ∧ H L = some (.lst us) ∧ LV (PairE H) us rows ∧ 0 < rows.length ∧ rows.length ≤ pw i ∧ ∀ t c, (t, c) ∈ rows ↔ ∃ xs, c = 0 :: xs ∧ Ch cs 0 xs i t
def PtJ (cs : List Arc) (b j t : Nat) (c : List Nat) : Prop := ∃ xs k s e, k < j ∧ c = 0 :: (xs ++ [b]) ∧ Ch cs 0 xs k s ∧ dem cs k b = some e ∧ t = s + e
section
variable {P : Program} {w : World} {K : PySem.W.Frag} {mg : Str → Option Value} {base : Heap}
def spChainsE : Sp := fun vs H Q _ => ∃ (v : V) (n : Nat) (cs : List Arc), vs = [nV n, v] ∧ CellsV H v cs ∧ cs.length ≤ 1000 ∧ n ≤ 11 ∧
  ∀ H' F vs', Same H H' → H F = none → H' F = some (.lst vs') → vs'.length = n + 1 → (∀ i v, vs'[i]? = some v → ChE cs F H' v i) → Q (.ref F) H'
theorem ok_chainsE (T : Txt K mg) : FnOk P w K mg base CX0 2 T.a_law_chains T.d_law_chains ["_law_tracks", "_law_cells"] spChainsE := by
  have G_law_demand : FnOk P w K mg base CX0 1 T.a_law_demand T.d_law_demand ["_law_cells", "_law_first", "_law_last"] spLawDemand := ok_law_demand T
  refine T.D_law_chains.F.ok sc_law_chains (fun vs H Q E h => ?_) (fun cdv A outer s H vs Q E hr h => ?_)
  · obtain ⟨v, n, cs, rfl, _⟩ := h
    rfl
  · obtain ⟨v, n, cs, rfl, hc, lc, n10, q⟩ := h
    refine ⟨_, (pss_cons (ps_set (i := 2) sc_law_chains.nd rfl (.inl rfl) (pe_lst (pa_cons (pe_lst (pa_cons (pe_tup (pa_cons pe_int (pa_cons (pe_tup (pa_cons pe_int pa_nil)) pa_nil))) pa_nil)) pa_nil)))
      (pss_cons (ps_for PassesOwn.never rfl (pi_range2 (by rfl) T.n_range (pa_cons pe_int (pa_cons (pe_op op_add (pv 0) pe_int) pa_nil))) (pg_name (i := 3) sc_law_chains.nd rfl (.inr rfl)) (pss_cons (ps_set (i := 4) sc_law_chains.nd rfl (.inl rfl) (pe_lst pa_nil))
      (pss_cons (ps_for PassesOwn.never rfl (pi_range1 (by rfl) T.n_range (pa_cons (pv 3) pa_nil)) (pg_name (i := 5) sc_law_chains.nd rfl (.inl rfl)) (pss_cons (ps_set (i := 6) sc_law_chains.nd rfl (.inr rfl) (pe_call G_law_demand (hr.mono (by decide)) (by rfl) T.D_law_demand.G T.D_law_demand.F.kp T.D_law_demand.B .nil pass0 (pa_cons (pv 1) (pa_cons (pv 5) (pa_cons (pv 3) pa_nil)))))
      (pss_one (ps_if (pt_cmpR op_notN (pv 6) pe_non (nomark _)) (pss_one (ps_set (i := 4) sc_law_chains.nd rfl (.inl rfl) (pe_op op_cat (pv 4) (pe_lc (own := [("_law_total", 7), ("_law_chain", 8)]) (g := (gTup K 2 (gCons (gName 7) (gCons (gName 8) gNil)))) (tt := tYes) rfl sc_law_chains.nd (pi_list (pe_ix ix_list (pv 2) (pv 5) (fun _ _ => rfl))) (blkOk_by (own := [("_law_total", 7), ("_law_chain", 8)]) (N := ["_law_tracks", "_law_cells", "_law_found", "_law_last", "_law_rows", "_law_first", "_law_demand_here", "_law_total", "_law_chain"]) (sc := defScope s_law_chains) (by decide +kernel)) (fun _ _ _ _ _ => (pg_tup (by rfl) (pgs_cons (pg_name (i := 7) sc_law_chains.nd rfl (.inl rfl)) (pgs_cons (pg_name (i := 8) sc_law_chains.nd rfl (.inl rfl)) pgs_nil)))) (fun _ _ _ _ _ => pts_nil) (fun _ _ _ _ _ => (pe_tup (pa_cons (pe_op op_add (pv 7) (pv 6)) (pa_cons (pe_op (r := rCatA K) op_catA (pv 8) (pe_tup (pa_cons (pv 3) pa_nil))) pa_nil)))))))) pss_nil))))
      (pss_one (ps_expr (pe_bm PySem.F.plainAttrs_list PySem.F.slot_list_append PySem.F.type_list_append mt_append (pv 2) (pa_cons (pv 4) pa_nil)))))))
      (pss_one (ps_ret (pv 2))))), ?_⟩
    refine ⟨by show 1 ≤ sizeLine; decide, fun c nc => ⟨by show 2 ≤ sizeLine; decide, fun b nb => ⟨by show 1 ≤ sizeLine; decide, fun L nL => ⟨by show 1 ≤ sizeLine; decide, fun F nF => ?_⟩⟩⟩⟩
    have kc := same_upd (o := .tup [V.int 0]) (Same.refl H) nc
    have kb := same_upd (o := .tup [V.int 0, V.ref c]) (Same.refl _) nb
    have kL := same_upd (o := .lst [V.ref b]) (Same.refl _) nL
    have kF := same_upd (o := .lst [V.ref L]) (Same.refl _) nF
    have ec := kF _ _ (kL _ _ (kb _ _ (show upd H c (.tup [V.int 0]) c = some (.tup [V.int 0]) from upd_same)))
    have eb := kF _ _ (kL _ _ (show upd (upd H c (.tup [V.int 0])) b (.tup [V.int 0, V.ref c]) b = some (.tup [V.int 0, V.ref c]) from upd_same))
    have eL0 : upd (upd (upd H c (.tup [V.int 0])) b (.tup [V.int 0, V.ref c])) L (.lst [V.ref b]) L = some (.lst [V.ref b]) := upd_same
    have nLF : L ≠ F := ne_of_none eL0 nF
    have eL := kF _ _ eL0
    have k0 := ((kc.trans kb).trans kL).trans kF
    have nFH : H F = none := by
      cases e : H F with
      | none => rfl
      | some o => rw [kL _ _ (kb _ _ (kc _ _ e))] at nF; cases nF
    have eF : upd (upd (upd (upd H c (.tup [V.int 0])) b (.tup [V.int 0, V.ref c])) L (.lst [V.ref b])) F (.lst [V.ref L]) F = some (.lst [V.ref L]) := upd_same
    generalize upd (upd (upd (upd H c (.tup [V.int 0])) b (.tup [V.int 0, V.ref c])) L (.lst [V.ref b])) F (.lst [V.ref L]) = H0 at k0 eF eL eb ec
    have r0 : ChE cs F H0 (.ref L) 0 := ⟨L, [.ref b], [(0, [0])], rfl, nLF, eL, LV.snoc LV.nil ⟨b, c, rfl, eb, ec⟩, Nat.lt_succ_self 0, Nat.le_refl 1, fun t c => by
      constructor
      · intro h
        have h := List.mem_singleton.mp h
        cases h
        exact ⟨[], rfl, Ch.nil 0⟩
      · rintro ⟨xs, rfl, hx⟩
        obtain ⟨rfl, rfl⟩ := hx.self
        exact List.mem_singleton.mpr rfl⟩
    refine ⟨_, rfl, _, _, rfl, rfl, _, _, rfl, ⟨by decide, by decide, by omega, by omega⟩, ?_⟩
    rw [show (((n : Nat) : Int) + 1 - 1).toNat = n by omega]
    refine for_it walk_range (fun i σ' H' => ∃ (ws : List V) (x3 x4 x5 x6 x7 x8 : Option V), σ' = [some (nV n), some v, some (.ref F), x3, x4, x5, x6, x7, x8] ∧ Same H H' ∧ H' F = some (.lst ws) ∧ ws.length = i + 1 ∧ ∀ j v, ws[j]? = some v → ChE cs F H' v j) ⟨[.ref L], none, none, none, none, none, none, rfl, k0, eF, rfl, fun j v hj => ?_⟩ (fun _ _ _ _ _ => trivial) ?_ ?_
    · cases j with
      | zero => rw [← Option.some.inj hj]; exact r0
      | succ j => cases hj
    · rintro i x σ' H2 H3 hi ⟨ws, x3, x4, x5, x6, x7, x8, rfl, k3, eF, lw, hw⟩ ⟨rfl, hx⟩
      have hx : x = nV (i + 1) := by rw [hx]; show V.int (1 + (i : Int)) = _; rw [show 1 + (i : Int) = ((i + 1 : Nat) : Int) by omega]; rfl
      subst hx
      refine ⟨by show 0 ≤ sizeLine; decide, fun R nR => ?_⟩
      have kR := same_upd (o := .lst []) (Same.refl H3) nR
      have nRF : F ≠ R := ne_of_none eF nR
      refine ⟨_, rfl, ((i + 1 : Nat) : Int), rfl, by omega, by omega, ?_⟩
      rw [Int.toNat_natCast]
      refine for_it walk_range (fun j σ' H' => ∃ (R : Addr) (us : List V) (rows : List (Nat × List Nat)) (x5 x6 x7 x8 : Option V), σ' = [some (nV n), some v, some (.ref F), some (nV (i + 1)), some (.ref R), x5, x6, x7, x8] ∧ Same H3 H' ∧ R ≠ F ∧ H' R = some (.lst us) ∧ LV (PairE H') us rows ∧ rows.length ≤ pc j ∧ (i < j → 0 < rows.length) ∧ ∀ t c, (t, c) ∈ rows ↔ PtJ cs (i + 1) j t c) ⟨R, [], [], x5, x6, x7, x8, rfl, kR, nRF.symm, upd_same, LV.nil, Nat.zero_le _, fun z => absurd z (Nat.not_lt_zero _), fun t c => ⟨(fun h => nomatch h), fun ⟨_, _, _, _, h, _⟩ => absurd h (Nat.not_lt_zero _)⟩⟩ (fun _ _ _ _ _ => trivial) ?_ ?_
      · rintro j x σ' H4 H5 hj ⟨R, us, rows, x5, x6, x7, x8, rfl, k5, rF, eR, hu, lu, pu, hw9⟩ ⟨rfl, hx⟩
        have hx : x = nV j := by rw [hx]; show V.int (0 + (j : Int)) = _; rw [Int.zero_add]; rfl
        subst hx
        refine ⟨_, rfl, _, rfl, _, rfl, v, cs, (j : Int), ((i + 1 : Nat) : Int), rfl, hc.mono (same_tups (k3.trans k5)), lc, fun H6 k6 => ?_⟩
        rw [demI_nat]
        have eR6 := k6 _ _ eR
        have hu6 : LV (PairE H6) us rows := hu.mono fun x r h => h.mono (same_tups k6)
        cases hd : dem cs j (i + 1) with
        | none =>
          refine ⟨_, rfl, rfl, false, bNT rfl, ?_⟩
          have nk : ∀ k e, k ≤ j → dem cs k (i + 1) = some e → k < j := fun k e h he => by
            rcases Nat.lt_or_eq_of_le h with z | z
            · exact z
            · rw [z, hd] at he; cases he
          refine ⟨R, us, rows, _, _, _, _, rfl, k5.trans k6, rF, eR6, hu6, by rw [pc_succ]; omega, fun z => pu ?_, fun t c => (hw9 t c).trans ⟨fun ⟨xs, k, s, e, h, r⟩ => ⟨xs, k, s, e, by omega, r⟩, fun ⟨xs, k, s, e, h, h1, h2, h3, h4⟩ => ⟨xs, k, s, e, nk k e (by omega) h3, h1, h2, h3, h4⟩⟩⟩
          by_cases c : j = i
          · subst c
            obtain ⟨e, he⟩ := dem_next cs j
            rw [hd] at he; cases he
          · omega
        | some e =>
          refine ⟨_, rfl, rfl, true, bNF (fun z => by cases z), ?_⟩
          have ka := k5.trans k6
          have eF6 := ka _ _ eF
          have gj : ws[j]? = some ws[j] := List.getElem?_eq_getElem (by omega)
          obtain ⟨b, ys, prows, eb, nbF, hb, hy, py, ly, hp9⟩ := hw j _ gj
          rw [eb] at gj
          have hb6 := ka _ _ hb
          refine ⟨_, rfl, _, rfl, _, rfl, F, _, _, _, rfl, rfl, SqL.of eF6, atI_nat gj, b, rfl, ⟨_, SqL.of hb6⟩, fun D nD => ?_⟩
          have lyr : ys.length = prows.length := hy.1
          refine lc_it (walk_list (K := K) (a := b) (xs := ys)) (fun m H' => Same H6 H' ∧ ∃ zs : List V, zs.length = m ∧ H' D = some (.lst zs) ∧ LV (PairE H') zs ((prows.take m).map fun r => (r.1 + e, r.2 ++ [i + 1]))) ⟨same_upd (Same.refl H6) nD, [], rfl, upd_same, by rw [List.take_zero]; exact LV.nil⟩ ?_ ?_ ?_
          · rintro m H' _ ⟨k, _⟩
            exact SqL.of (k _ _ hb6)
          · rintro m x H7 H8 hm ⟨k7, zs, lz, eD, hz⟩ ⟨rfl, hx⟩
            obtain ⟨⟨t, c⟩, hr9, pa, ca, rfl, e1, e2⟩ := hy.at hx
            have hm9 : m < prows.length := (List.getElem?_eq_some_iff.mp hr9).1
            obtain ⟨xs, ec9, hc9⟩ := (hp9 t c).mp (List.mem_of_getElem? hr9)
            have lx : c.length ≤ 20 := by
              have := hc9.len
              rw [ec9, List.length_cons]; omega
            have kb := ka.trans k7
            have e1 := kb _ _ e1
            have e2 := kb _ _ e2
            refine ⟨pa, _, rfl, SqT.of e1, rfl, _, _, rfl, _, _, rfl, rfl, rfl, ?_⟩
            refine ⟨_, rfl, _, rfl, _, _, rfl, rfl, _, rfl, _, rfl, by show 1 ≤ sizeLine; decide, fun o no => ?_⟩
            have k9 := same_upd (o := .tup [nV (i + 1)]) (Same.refl H8) no
            have eo : upd H8 o (.tup [nV (i + 1)]) o = some (.tup ([i + 1].map nV)) := upd_same
            refine catA_any (k9 _ _ e2) eo (by rw [List.length_map]; exact Nat.le_of_lt (szN (by show c.length + 1 < _; omega))) fun c2 H9 k10 ec2 => ?_
            rw [← List.map_append] at ec2
            refine ⟨by show 2 ≤ sizeLine; decide, fun np nnp => ?_⟩
            have k11 := same_upd (o := .tup [V.int (t + (e : Int)), V.ref c2]) (Same.refl H9) nnp
            have kk := (k9.trans k10).trans k11
            refine ⟨zs, kk _ _ eD, szN (by rw [lz]; have := pw_le (i := j) (by omega); omega), same_mut (k7.trans kk) nD, zs ++ [.ref np], by rw [List.length_append, lz]; rfl, upd_same, ?_⟩
            have eDn := kk _ _ eD
            have tupD : ∀ a xs, upd H9 np (.tup [V.int (t + (e : Int)), V.ref c2]) a = some (.tup xs) → upd (upd H9 np (.tup [V.int (t + (e : Int)), V.ref c2])) D (.lst (zs ++ [V.ref np])) a = some (.tup xs) := fun a xs h => by
              rw [upd_ne (fun z => by rw [z, eDn] at h; cases h)]; exact h
            rw [take_succ' hr9, List.map_append]
            exact (hz.mono fun x r h => (h.mono (same_tups kk)).mono tupD).snoc ⟨np, c2, rfl, tupD _ _ upd_same, tupD _ _ (k11 _ _ ec2)⟩
          · rintro H7 ⟨k7, zs, lz, eD, hz⟩
            have p1 := pw_le (i := j) (by omega)
            have p2 := pc_le (i := j) (by omega)
            rw [lyr, List.take_length] at hz
            have lz2 := hz.1
            rw [List.length_map] at lz2
            have lus := hu6.1
            refine ⟨R, D, _, _, rfl, rfl, k7 _ _ eR6, eD, Nat.le_of_lt (szN (by omega)), fun p np => ?_⟩
            have k8 := same_upd (o := .lst (us ++ zs)) (Same.refl H7) np
            refine ⟨p, us ++ zs, rows ++ prows.map (fun r => (r.1 + e, r.2 ++ [i + 1])), _, _, _, _, rfl, (ka.trans k7).trans k8, (ne_of_none (k7 _ _ eF6) np).symm, upd_same, (hu6.mono fun x r h => (h.mono (same_tups k7)).mono (same_tups k8)).app (hz.mono fun x r h => h.mono (same_tups k8)), by rw [pc_succ, List.length_append, List.length_map]; omega, fun _ => by rw [List.length_append, List.length_map]; omega, fun t c => ?_⟩
            rw [List.mem_append, hw9 t c]
            constructor
            · rintro (⟨xs, k, s, e', h, r⟩ | h)
              · exact ⟨xs, k, s, e', by omega, r⟩
              · obtain ⟨⟨t1, c1⟩, h1, h2⟩ := List.mem_map.mp h
                cases h2
                obtain ⟨xs, rfl, h3⟩ := (hp9 t1 c1).mp h1
                exact ⟨xs, j, t1, e, Nat.lt_succ_self j, rfl, h3, hd, rfl⟩
            · rintro ⟨xs, k, s, e', h, h1, h2, h3, h4⟩
              rcases Nat.lt_or_ge k j with z | z
              · exact .inl ⟨xs, k, s, e', z, h1, h2, h3, h4⟩
              · have : k = j := by omega
                subst this
                rw [hd] at h3
                have := Option.some.inj h3
                subst this
                exact .inr (List.mem_map.mpr ⟨(s, 0 :: xs), (hp9 _ _).mpr ⟨xs, rfl, h2⟩, by rw [h1, h4]; rfl⟩)
      · rintro σ' H4 ⟨R, us, rows, x5, x6, x7, x8, rfl, k5, rF, eR, hu, lu, pu, hw9⟩
        have eF4 := k5 _ _ eF
        refine ⟨.ref F, rfl, .inl ⟨rfl, _, .inl (.inl eF4)⟩, _, rfl, F, _, _, rfl, rfl, eF4, szN (by omega), ?_⟩
        refine ⟨ws ++ [.ref R], _, _, _, _, _, _, rfl, same_mut (k3.trans k5) nFH, upd_same, by rw [List.length_append, lw]; rfl, fun j v hj => ?_⟩
        have tupF : ∀ a xs, H4 a = some (.tup xs) → upd H4 F (.lst (ws ++ [V.ref R])) a = some (.tup xs) := fun a xs h => by
          rw [upd_ne (fun z => by rw [z, eF4] at h; cases h)]; exact h
        by_cases c : j < ws.length
        · rw [List.getElem?_append_left c] at hj
          obtain ⟨L2, ys, pr, e1, n2, e2, h2, p2, l2, c2⟩ := hw j v hj
          exact ⟨L2, ys, pr, e1, n2, by rw [upd_ne n2]; exact k5 _ _ e2, h2.mono fun x r h => (h.mono (same_tups k5)).mono tupF, p2, l2, c2⟩
        · rw [List.getElem?_append_right (by omega)] at hj
          have e0 : j - ws.length = 0 := by
            have := (List.getElem?_eq_some_iff.mp hj).1
            simp at this
            exact this
          rw [e0] at hj
          have hj := Option.some.inj hj
          subst hj
          have : j = i + 1 := by omega
          subst this
          exact ⟨R, us, rows, rfl, rF, by rw [upd_ne rF]; exact eR, hu.mono fun x r h => h.mono tupF, pu (by omega), lu, fun t c => (hw9 t c).trans ⟨fun ⟨xs, k, s, e, h, h1, h2, h3, h4⟩ => ⟨_, h1, by rw [h4]; exact h2.snoc h h3⟩, fun ⟨xs, h1, h2⟩ => by
            obtain ⟨ys, k, s, e, rfl, g1, g2, g3, g4⟩ := h2.unsnoc (Nat.succ_pos i)
            exact ⟨ys, k, s, e, g2, h1, g1, g3, g4⟩⟩⟩
    · rintro σ' H2 ⟨ws, x3, x4, x5, x6, x7, x8, rfl, k3, eF, lw, hw⟩
      exact ⟨_, rfl, q H2 F ws k3 nFH eF lw hw⟩
end
end Vf

set_option Elab.async false
set_option linter.all false
set_option maxRecDepth 100000
set_option maxHeartbeats 4000000
namespace Vf
open PySem PySem.Spec PyProof.Rows L2 TL
/-! ### chain_of -/
def RsD (H : Hp) (S : Addr) (R : Nat → Nat) (lo b N : Nat) : Prop := ∃ kvs : List (Key × V), H S = some (.dK kvs) ∧ kvs.length ≤ N ∧ ∀ j, lo ≤ j → j ≤ b → valV kvs (Sum.inl (j : Int)) = some (nV (R j))
theorem RsD.keep {H H' : Hp} {S : Addr} {R : Nat → Nat} {lo b N : Nat} (h : RsD H S R lo b N) (k : Same H H') : RsD H' S R lo b N := by
  obtain ⟨kvs, e, r⟩ := h
  exact ⟨kvs, k _ _ e, r⟩
theorem RsD.get {H : Hp} {S : Addr} {R : Nat → Nat} {lo b N j : Nat} (h : RsD H S R lo b N) (h1 : lo ≤ j) (h2 : j ≤ b) : DGet H S (nV j) (some (nV (R j))) := by
  obtain ⟨kvs, e, _, g⟩ := h
  rw [← g j h1 h2]
  exact DGet.k (k := Sum.inl (j : Int)) e
theorem RsD.other {H : Hp} {S a : Addr} {o : HO} {R : Nat → Nat} {lo b N : Nat} (h : RsD H S R lo b N) (n : S ≠ a) : RsD (upd H a o) S R lo b N := by
  obtain ⟨kvs, e, r⟩ := h
  exact ⟨kvs, by rw [upd_ne n]; exact e, r⟩
def cnd (cs : List Arc) (R : Nat → Nat) (a : Nat) : Nat → Option Nat := fun k => (dem cs a (a + 1 + k)).map fun e => e + R (a + 1 + k)
section
variable {P : Program} {w : World} {K : PySem.W.Frag} {mg : Str → Option Value} {base : Heap}
def spChainOf : Sp := fun vs H Q _ => ∃ (v : V) (n b : Nat) (cs : List Arc), vs = [nV n, v, nV b] ∧ CellsV H v cs ∧ TabOk n cs ∧ b ≤ n ∧
  ∀ H' p pre top, Same H H' → H' p = some (.tup ((0 :: pre).map nV)) → RM cs b 0 top → Ch cs 0 pre b top → (∀ xs, Ch cs 0 xs b top → xs = pre ∨ SD pre xs) → Q (.ref p) H'
theorem ok_chain_of (T : Txt K mg) : FnOk P w K mg base CX0 2 T.a_chain_of T.d_chain_of ["tracks", "cells", "boundary"] spChainOf := by
  have G_demands : FnOk P w K mg base CX0 1 T.a_demands T.d_demands ["tracks", "cells"] spDemands := ok_demands T
  refine T.D_chain_of.F.ok sc_chain_of (fun vs H Q E h => ?_) (fun cdv A outer s H vs Q E hr h => ?_)
  · obtain ⟨v, n, b, cs, rfl, _⟩ := h
    rfl
  · obtain ⟨v, n, b, cs, rfl, hc, ok, hbn, q⟩ := h
    refine ⟨_, (pss_cons (ps_set (i := 3) sc_chain_of.nd rfl (.inr rfl) (pe_call G_demands (hr.mono (by decide)) (by rfl) T.D_demands.G T.D_demands.F.kp T.D_demands.B .nil pass0 (pa_cons (pv 0) (pa_cons (pv 1) pa_nil))))
      (pss_cons (ps_set (i := 4) sc_chain_of.nd rfl (.inr rfl) (pe_disp (pps_cons (pv 2) pe_int pps_nil) rfl rfl (by simp) (by decide)))
      (pss_cons (ps_for PassesOwn.never rfl (pi_revR (by rfl) T.n_reversed (prg_1 (by rfl) T.n_range (pv 2))) (pg_name (i := 5) sc_chain_of.nd rfl (.inr rfl)) (pss_one (ps_dput (hu1 hr) (pv 4) (pv 5) (pe_callB (cr_max (by rfl)) (by rfl) T.n_max (by decide +kernel) (pa_cons (pe_lc (own := [("behind", 7)]) (g := gName 7) rfl sc_chain_of.nd (pi_range2 (by rfl) T.n_range (pa_cons (pe_op op_add (pv 5) pe_int) (pa_cons (pe_op op_add (pv 2) pe_int) pa_nil))) (blkOk_by (own := [("behind", 7)]) (N := ["tracks", "cells", "boundary", "demands", "rests", "ahead", "chain", "behind"]) (sc := defScope s_chain_of) (by decide +kernel)) (fun _ _ _ _ _ => (pg_name (i := 7) sc_chain_of.nd rfl (.inl rfl))) (fun _ _ _ _ _ => (pts_one (pt_cmp (pc_din (hu1 hr) (pe_tup (pa_cons (pv 5) (pa_cons (pv 7) pa_nil))) (pv 3))))) (fun _ _ _ _ _ => (pe_op op_add (pe_dget (hu1 hr) (pv 3) (pe_tup (pa_cons (pv 5) (pa_cons (pv 7) pa_nil))) (fun _ _ => rfl)) (pe_dget (hu1 hr) (pv 4) (pv 7) (fun _ _ => rfl))))) pa_nil)) rfl)))
      (pss_cons (ps_set (i := 6) sc_chain_of.nd rfl (.inl rfl) (pe_lst (pa_cons pe_int pa_nil)))
      (pss_cons (ps_while PassesOwn.never (pt_cmpR op_ne (pe_ix ix_list (pv 6) (pe_un un_neg pe_int) (fun _ _ => rfl)) (pv 2) (nomark _)) (pss_cons (ps_set (i := 5) sc_chain_of.nd rfl (.inr rfl) (pe_ix ix_list (pv 6) (pe_un un_neg pe_int) (fun _ _ => rfl)))
      (pss_cons (ps_set (i := 7) sc_chain_of.nd rfl (.inl rfl) (pe_op op_add (pv 5) pe_int))
      (pss_cons (ps_while PassesOwn.never (PW.pt (pw_or (pt_cmp (pc_dnotin (hu1 hr) (pe_tup (pa_cons (pv 5) (pa_cons (pv 7) pa_nil))) (pv 3))) (pw_or1 (pt_cmpR op_lt (pe_op op_add (pe_dget (hu1 hr) (pv 3) (pe_tup (pa_cons (pv 5) (pa_cons (pv 7) pa_nil))) (fun _ _ => rfl)) (pe_dget (hu1 hr) (pv 4) (pv 7) (fun _ _ => rfl))) (pe_dget (hu1 hr) (pv 4) (pv 5) (fun _ _ => rfl)) (nomark _))))) (pss_one (ps_aug (i := 7) sc_chain_of.nd rfl (.inl rfl) pe_int ip_add)))
      (pss_one (ps_expr (pe_bm PySem.F.plainAttrs_list PySem.F.slot_list_append PySem.F.type_list_append mt_append (pv 6) (pa_cons (pv 7) pa_nil))))))))
      (pss_one (ps_ret (pe_callTy call_tuple_of (by rfl) T.n_tuple (by decide +kernel) (pa_cons (pv 6) pa_nil))))))))), ?_⟩
    refine ⟨_, rfl, _, rfl, v, n, cs, rfl, hc, ok, fun H1 D k1 nD dv => ?_⟩
    obtain ⟨n1, n2, n3, n4⟩ := ok
    refine fun S nS => ?_
    refine ⟨_, rfl, ?_⟩
    have nDS : D ≠ S := by
      obtain ⟨kvs, h1, _⟩ := dv
      exact ne_of_none h1 nS
    have eS0 : upd H1 S (.dK []) S = some (.dK []) := upd_same
    have kS := same_mut (o := .dK (mergeK [] [(Sum.inl (b : Int), nV 0)])) (same_upd (o := .dK []) (Same.refl H1) nS) nS
    have dvS := dv.keep kS
    have kHS := k1.trans kS
    have nSH : H S = none := by
      cases e : H S with
      | none => rfl
      | some o => rw [k1 _ _ e] at nS; cases nS
    have hS : RsD (upd (upd H1 S (.dK [])) S (.dK (mergeK [] [(Sum.inl (b : Int), nV 0)]))) S (fun _ => 0) b b 1 := ⟨_, upd_same, Nat.le_refl 1, fun j h1 h2 => by
      have : j = b := by omega
      subst this
      show valV (putK [] (Sum.inl (j : Int)) (nV 0)) _ = _
      rw [valV_put, if_pos rfl]⟩
    refine ⟨eS0, [(Sum.inl (b : Int), nV 0)], rfl, (show 1 ≤ 15 by decide), ?_⟩
    generalize upd (upd H1 S (.dK [])) S (.dK (mergeK [] [(Sum.inl (b : Int), nV 0)])) = H2 at hS dvS kHS
    refine ⟨_, rfl, (b : Int), rfl, by decide, by decide, by omega, by omega, ?_⟩
    have eb : ((b : Int) - 0).toNat = b := by omega
    rw [eb]
    refine for_rangeC (fun i σ' H' => ∃ (R : Nat → Nat) (x5 x7 : Option V), σ' = [some (nV n), some v, some (nV b), some (.ref D), some (.ref S), x5, none, x7] ∧ Same H H' ∧ DemV H' D 2000 (demT n cs) ∧ RsD H' S R (b - i) b (i + 1) ∧ ∀ j, b - i ≤ j → j ≤ b → RM cs b j (R j)) ⟨fun _ => 0, none, none, rfl, kHS, dvS, hS, fun j h1 h2 => by
      have : j = b := by omega
      subst this
      exact rm_self cs j⟩ ?_ ?_
    · rintro i σ' H3 hi ⟨R, x5, x7, rfl, k3, dv3, rs3, hR⟩
      obtain ⟨a, ea⟩ : ∃ a, a = b - 1 - i := ⟨_, rfl⟩
      have ex : V.int ((0 : Int) + ((b : Nat) : Int) - 1 + ((i : Nat) : Int) * (-1)) = nV a := by
        show V.int _ = V.int (a : Int)
        congr 1; omega
      rw [ex]
      have hab : a < b := by omega
      refine ⟨_, rfl, _, _, rfl, rfl, _, rfl, _, _, rfl, rfl, _, _, rfl, ⟨by omega, by omega, by omega, by omega⟩, ?_⟩
      rw [show (((b : Nat) : Int) + 1 - (((a : Nat) : Int) + 1)).toNat = b - a by omega]
      refine fun C nC => lc_range (lo := ((a : Nat) : Int) + 1) (n := b - a) (fun k H' => Same H3 H' ∧ H' C = some (.lst (((List.range k).filterMap (cnd cs R a)).map nV)) ∧ ((List.range k).filterMap (cnd cs R a)).length ≤ k) ⟨same_upd (Same.refl H3) nC, upd_same, Nat.le_refl _⟩ (fun k H4 hk p => ⟨rfl, ?_⟩) (fun H4 p => ?_)
      · obtain ⟨k4, eC, lC⟩ := p
        have ej : V.int ((((a : Nat) : Int) + 1) + (k : Int)) = nV (a + 1 + k) := by
          show V.int _ = V.int ((a + 1 + k : Nat) : Int)
          congr 1
        rw [ej]
        have eD : demT n cs (a : Int) ((a + 1 + k : Nat) : Int) = dem cs a (a + 1 + k) := demT_eq (by omega)
        have rs : (List.range (k + 1)).filterMap (cnd cs R a) = (List.range k).filterMap (cnd cs R a) ++ (cnd cs R a k).toList := by
          rw [List.range_succ, List.filterMap_append]
          cases h : cnd cs R a k with
          | none => rw [List.filterMap_cons_none h]; rfl
          | some x => rw [List.filterMap_cons_some h]; rfl
        refine ⟨_, rfl, _, rfl, by show 2 ≤ sizeLine; decide, fun t nt => ?_⟩
        have k5 := same_upd (o := .tup [nV a, nV (a + 1 + k)]) (Same.refl H4) nt
        have et : upd H4 t (.tup [nV a, nV (a + 1 + k)]) t = some (.tup [nV a, nV (a + 1 + k)]) := upd_same
        have dv5 := (dv3.keep k4).keep k5
        have g1 := dv5.get et
        rw [eD] at g1
        generalize upd H4 t (.tup [nV a, nV (a + 1 + k)]) = H5 at k5 dv5 g1
        cases hd : dem cs a (a + 1 + k) with
        | none =>
          rw [hd] at g1
          have ec : cnd cs R a k = none := by unfold cnd; rw [hd]; rfl
          refine ⟨_, rfl, D, _, rfl, g1, _, rfl, k4.trans k5, ?_, ?_⟩
          · rw [rs, ec]; show _ = some (HO.lst ((_ ++ []).map nV)); rw [List.append_nil]; exact k5 _ _ eC
          · rw [rs, ec]; show (_ ++ []).length ≤ _; rw [List.append_nil]; omega
        | some e =>
          rw [hd] at g1
          have ec : cnd cs R a k = some (e + R (a + 1 + k)) := by unfold cnd; rw [hd]; rfl
          refine ⟨_, rfl, D, _, rfl, g1, _, rfl, ?_⟩
          have ka := k4.trans k5
          refine ⟨_, rfl, _, rfl, _, rfl, by show 2 ≤ sizeLine; decide, fun u nu => ?_⟩
          have k6 := same_upd (o := .tup [nV a, nV (a + 1 + k)]) (Same.refl H5) nu
          have eu : upd H5 u (.tup [nV a, nV (a + 1 + k)]) u = some (.tup [nV a, nV (a + 1 + k)]) := upd_same
          have g2 := (dv5.keep k6).get eu
          rw [eD, hd] at g2
          generalize upd H5 u (.tup [nV a, nV (a + 1 + k)]) = H6 at k6 g2
          have kb := ka.trans k6
          have g3 := (rs3.keep kb).get (j := a + 1 + k) (by omega) (by omega)
          refine ⟨D, _, rfl, g2, _, rfl, _, rfl, S, _, rfl, g3, _, _, rfl, rfl, ?_⟩
          refine ⟨_, k6 _ _ (k5 _ _ eC), by rw [List.length_map]; exact szN (by omega), same_mut kb nC, ?_, ?_⟩
          · rw [upd_same, rs, ec, List.map_append]; rfl
          · rw [rs, ec, List.length_append]; show _ + 1 ≤ _; omega
      · obtain ⟨k4, eC, lC⟩ := p
        have hmem : ∀ x, x ∈ (List.range (b - a)).filterMap (cnd cs R a) ↔ ∃ j e, a < j ∧ j ≤ b ∧ dem cs a j = some e ∧ x = e + R j := fun x => by
          rw [List.mem_filterMap]
          constructor
          · rintro ⟨k, hk, h⟩
            have hk := List.mem_range.mp hk
            unfold cnd at h
            cases hd : dem cs a (a + 1 + k) with
            | none => rw [hd] at h; cases h
            | some e =>
              rw [hd] at h
              exact ⟨a + 1 + k, e, by omega, by omega, hd, (Option.some.inj h).symm⟩
          · rintro ⟨j, e, h1, h2, h3, rfl⟩
            refine ⟨j - a - 1, List.mem_range.mpr (by omega), ?_⟩
            unfold cnd
            rw [show a + 1 + (j - a - 1) = j by omega, h3]; rfl
        obtain ⟨e1, he1⟩ := dem_next cs a
        have hm1 := (hmem _).mpr ⟨a + 1, e1, Nat.lt_succ_self a, by omega, he1, rfl⟩
        generalize (List.range (b - a)).filterMap (cnd cs R a) = ns at eC hmem hm1 lC
        refine ⟨C, ns.map (fun x : Nat => (x : Int)), rfl, SqL.of (by rw [eC, List.map_map]; rfl), by rw [List.length_map]; exact List.length_pos_of_mem hm1, fun m hm hM => ?_⟩
        obtain ⟨m, hm2, rfl⟩ := List.mem_map.mp hm
        have hM : ∀ y ∈ ns, y ≤ m := fun y hy => by
          have := hM _ (List.mem_map.mpr ⟨y, hy, rfl⟩)
          omega
        have rm : RM cs b a m := rm_step hab (R := R) (fun j h1 h2 => hR j (by omega) h2) ((hmem m).mp hm2) (fun j e h1 h2 h3 => hM _ ((hmem _).mpr ⟨j, e, h1, h2, h3, rfl⟩))
        obtain ⟨kvs, eK, lk, gk⟩ := rs3.keep k4
        refine ⟨_, rfl, _, rfl, S, _, rfl, DPut.k (k := Sum.inl ((a : Nat) : Int)) eK (szN (by omega)), ?_⟩
        refine ⟨fun j => if j = a then m else R j, _, _, rfl, same_mut (k3.trans k4) nSH, (dv3.keep k4).other nDS, ⟨_, upd_same, Nat.le_trans (length_putK _ _ _) (by omega), fun j h1 h2 => ?_⟩, fun j h1 h2 => ?_⟩
        · rw [valV_put]
          by_cases c : j = a
          · subst c
            rw [if_pos rfl]
            show some (V.int (m : Int)) = some (nV (if j = j then m else R j))
            rw [if_pos rfl]; rfl
          · rw [if_neg (fun (z : (Sum.inl ((j : Nat) : Int) : Key) = Sum.inl ((a : Nat) : Int)) => c (Int.ofNat.inj (Sum.inl.inj z)))]
            show _ = some (nV (if j = a then m else R j))
            rw [if_neg c]
            exact gk j (by omega) h2
        · by_cases c : j = a
          · subst c
            show RM cs b j (if j = j then m else R j)
            rw [if_pos rfl]; exact rm
          · show RM cs b j (if j = a then m else R j)
            rw [if_neg c]
            exact hR j (by omega) h2
    · rintro σ' H3 ⟨R, x5, x7, rfl, k3, dv3, rs3, hR⟩
      have hR : ∀ j, j ≤ b → RM cs b j (R j) := fun j hj => hR j (by omega) hj
      rw [Nat.sub_self] at rs3
      have hRb : R b = 0 := (hR b (Nat.le_refl b)).uniq (rm_self cs b)
      refine ⟨by show 1 ≤ sizeLine; decide, fun L nL => ?_⟩
      have kL := same_upd (o := .lst [V.int 0]) (Same.refl H3) nL
      have eL : upd H3 L (.lst [V.int 0]) L = some (.lst ((0 :: ([] : List Nat)).map nV)) := upd_same
      have nLH : H L = none := by
        cases e : H L with
        | none => rfl
        | some o => rw [k3 _ _ e] at nL; cases nL
      have nDL : D ≠ L := by
        obtain ⟨kvs, h1, _⟩ := dv3
        exact ne_of_none h1 nL
      have nSL : S ≠ L := by
        obtain ⟨kvs, h1, _⟩ := rs3
        exact ne_of_none h1 nL
      refine ⟨fun m σ H' => ∃ (pre : List Nat) (a : Nat) (x5 x7 : Option V), m = b - a ∧ a ≤ b ∧ σ = [some (nV n), some v, some (nV b), some (.ref D), some (.ref S), x5, some (.ref L), x7] ∧ Same H H' ∧ DemV H' D 2000 (demT n cs) ∧ RsD H' S R 0 b (b + 1) ∧ H' L = some (.lst ((0 :: pre).map nV)) ∧ GI cs b R pre a ∧ (∃ ys, 0 :: pre = ys ++ [a]) ∧ pre.length ≤ a,
        ⟨_, [], 0, x5, x7, rfl, Nat.zero_le _, rfl, k3.trans kL, dv3.keep kL, rs3.keep kL, eL, gi_start cs b R, ⟨[], rfl⟩, Nat.le_refl 0⟩, fun m σ H4 hW => ?_⟩
      obtain ⟨pre, a, x5, x7, rfl, hab, rfl, k4, dv4, rs4, eL4, gi, la, lp⟩ := hW
      have atL : atI ((0 :: pre).map nV) (-1) = some (nV a) := by
        obtain ⟨ys, ey⟩ := la
        rw [ey, List.map_append]; exact atI_last _ _
      refine ⟨_, rfl, 1, rfl, L, _, -1, _, rfl, rfl, SqL.of eL4, atL, _, rfl, rfl, ?_⟩
      by_cases hb : a = b
      · subst hb
        refine ⟨false, bNT rfl, ?_⟩
        obtain ⟨g1, g2⟩ := gi_end gi hRb
        exact ⟨_, rfl, L, _, rfl, .inl ⟨SqL.of eL4, fun p np => q _ p pre (R 0) (k4.trans (same_upd (Same.refl H4) np)) upd_same (hR 0 (Nat.zero_le _)) g1 g2⟩⟩
      · refine ⟨true, bNF (fun z => hb (Int.ofNat.inj (V.int.inj z))), ?_⟩
        have hlt : a < b := by omega
        refine ⟨fun σ H' => ∃ (pre : List Nat) (a' : Nat) (x5 x7 : Option V), a < a' ∧ a' ≤ b ∧ σ = [some (nV n), some v, some (nV b), some (.ref D), some (.ref S), x5, some (.ref L), x7] ∧ Same H H' ∧ DemV H' D 2000 (demT n cs) ∧ RsD H' S R 0 b (b + 1) ∧ H' L = some (.lst ((0 :: pre).map nV)) ∧ GI cs b R pre a' ∧ (∃ ys, 0 :: pre = ys ++ [a']) ∧ pre.length ≤ a', fun σ' H' hN => ?_, ?_⟩
        · obtain ⟨pre', a', x5, x7, l1, l2, e, r⟩ := hN
          exact ⟨b - a', by omega, pre', a', x5, x7, rfl, l2, e, r⟩
        refine ⟨_, rfl, 1, rfl, L, _, -1, _, rfl, rfl, SqL.of eL4, atL, ?_⟩
        refine ⟨_, rfl, _, _, rfl, rfl, ?_⟩
        have e1 : V.int ((a : Nat) + 1 : Int) = nV (a + 1) := rfl
        refine ⟨fun m σ H' => ∃ j, m = b + 1 - j ∧ a < j ∧ j ≤ b ∧ σ = [some (nV n), some v, some (nV b), some (.ref D), some (.ref S), some (nV a), some (.ref L), some (nV j)] ∧ Same H4 H' ∧ ∀ i e', a < i → i < j → dem cs a i = some e' → e' + R i < R a, ⟨_, a + 1, rfl, Nat.lt_succ_self a, hlt, rfl, Same.refl H4, fun i e h1 h2 => by omega⟩, fun m σ H5 hW => ?_⟩
        obtain ⟨j, rfl, haj, hjb, rfl, k5, low⟩ := hW
        have nx : (∀ i e', a < i → i < j + 1 → dem cs a i = some e' → e' + R i < R a) → j + 1 ≤ b := fun lo => by
          obtain ⟨i, e, h1, h2, h3, h4⟩ := gi_next hlt hR
          rcases Nat.lt_or_ge i (j + 1) with z | z
          · have := lo i e h1 z h3
            omega
          · omega
        have eD : demT n cs (a : Int) (j : Int) = dem cs a j := demT_eq (by omega)
        refine ⟨_, rfl, _, rfl, by show 2 ≤ sizeLine; decide, fun t nt => ?_⟩
        have k6 := k5.trans (same_upd (o := .tup [nV a, nV j]) (Same.refl H5) nt)
        have et : upd H5 t (.tup [nV a, nV j]) t = some (.tup [nV a, nV j]) := upd_same
        have g1 := (dv4.keep k6).get et
        rw [eD] at g1
        generalize upd H5 t (.tup [nV a, nV j]) = H6 at k6 g1
        cases hd : dem cs a j with
        | none =>
          rw [hd] at g1
          have lo : ∀ i e', a < i → i < j + 1 → dem cs a i = some e' → e' + R i < R a := fun i e' h1 h2 h3 => by
            rcases Nat.lt_or_ge i j with z | z
            · exact low i e' h1 z h3
            · have : i = j := by omega
              rw [this, hd] at h3; cases h3
          refine ⟨_, rfl, D, _, rfl, g1, true, rfl, ?_⟩
          refine ⟨fun σ' H' => σ' = [some (nV n), some v, some (nV b), some (.ref D), some (.ref S), some (nV a), some (.ref L), some (nV (j + 1))] ∧ Same H4 H', fun σ' H' hN => ?_, ?_⟩
          · obtain ⟨rfl, k⟩ := hN
            exact ⟨b + 1 - (j + 1), by omega, j + 1, rfl, by omega, nx lo, rfl, k, lo⟩
          · refine ⟨_, rfl, _, _, rfl, rfl, ?_⟩
            exact ⟨rfl, k6⟩
        | some e =>
          rw [hd] at g1
          refine ⟨_, rfl, D, _, rfl, g1, false, rfl, ?_⟩
          refine ⟨_, rfl, _, rfl, _, rfl, by show 2 ≤ sizeLine; decide, fun u nu => ?_⟩
          have k7 := k6.trans (same_upd (o := .tup [nV a, nV j]) (Same.refl H6) nu)
          have eu : upd H6 u (.tup [nV a, nV j]) u = some (.tup [nV a, nV j]) := upd_same
          have g2 := (dv4.keep k7).get eu
          rw [eD, hd] at g2
          generalize upd H6 u (.tup [nV a, nV j]) = H7 at k7 g2
          have rs7 := rs4.keep k7
          have g3 := rs7.get (j := j) (Nat.zero_le _) hjb
          have g4 := rs7.get (j := a) (Nat.zero_le _) (by omega)
          refine ⟨D, _, rfl, g2, _, rfl, _, rfl, S, _, rfl, g3, _, _, rfl, rfl, _, rfl, _, rfl, S, _, rfl, g4, _, _, rfl, rfl, decide ((e : Int) + (R j : Int) < (R a : Int)), rfl, ?_⟩
          by_cases hl : (e : Int) + (R j : Int) < (R a : Int)
          · rw [decide_eq_true hl]
            have lo : ∀ i e', a < i → i < j + 1 → dem cs a i = some e' → e' + R i < R a := fun i e' h1 h2 h3 => by
              rcases Nat.lt_or_ge i j with z | z
              · exact low i e' h1 z h3
              · have : i = j := by omega
                rw [this, hd] at h3
                have := Option.some.inj h3
                subst this
                rw [‹i = j›]; omega
            refine ⟨fun σ' H' => σ' = [some (nV n), some v, some (nV b), some (.ref D), some (.ref S), some (nV a), some (.ref L), some (nV (j + 1))] ∧ Same H4 H', fun σ' H' hN => ?_, ?_⟩
            · obtain ⟨rfl, k⟩ := hN
              exact ⟨b + 1 - (j + 1), by omega, j + 1, rfl, by omega, nx lo, rfl, k, lo⟩
            · refine ⟨_, rfl, _, _, rfl, rfl, ?_⟩
              exact ⟨rfl, k7⟩
          · rw [decide_eq_false hl]
            have eL7 := k7 _ _ eL4
            refine ⟨.ref L, rfl, .inl ⟨rfl, _, SqL.of eL7⟩, _, rfl, L, _, _, rfl, rfl, eL7, szN (by rw [List.length_map, List.length_cons]; omega), ?_⟩
            refine ⟨pre ++ [j], j, _, _, haj, hjb, rfl, same_mut (k4.trans k7) nLH, (dv4.keep k7).other nDL, rs7.other nSL, by rw [upd_same, ← List.cons_append, List.map_append]; rfl, gi_step gi hlt hR haj hjb hd (by omega) low, ⟨0 :: pre, rfl⟩, by rw [List.length_append]; show _ + 1 ≤ _; omega⟩
end
end Vf

set_option Elab.async false
set_option linter.all false
set_option maxRecDepth 100000
set_option maxHeartbeats 4000000
namespace Vf
open PySem PySem.Spec PyProof.Rows L2 TL
/-- two values are the same data, at most n - 1 tuples deep -/
def Eqv : Nat → Hp → V → V → Prop
  | 0, _, _, _ => False
  | n + 1, H, v, u => ((∃ z, v = .str z ∧ u = .str z) ∨ (∃ i, v = .int i ∧ u = .int i) ∨ (v = .non ∧ u = .non)) ∨
      ∃ (a b : Addr) (xs ys : List V), v = .ref a ∧ u = .ref b ∧ H a = some (.tup xs) ∧ H b = some (.tup ys) ∧ xs.length = ys.length ∧ xs.length ≤ 100000 ∧ ∀ (i : Nat) x y, xs[i]? = some x → ys[i]? = some y → Eqv n H x y
def spExact (n : Nat) : Sp := fun vs H Q _ => ∃ (v u : V), vs = [v, u] ∧ Eqv n H v u ∧ Q (.bl true) H
theorem eq_self {H : Hp} {Q : VK} {x : V} (q : Q (.bl true) H) : Q (.bl (decide (x = x))) H := by
  rw [decide_eq_true rfl]; exact q
section
variable {P : Program} {w : World} {K : PySem.W.Frag} {mg : Str → Option Value} {base : Heap}
theorem ok_exact (T : Txt K mg) : ∀ n : Nat, FnOk P w K mg base CX0 (n + 1) T.a_law_exact T.d_law_exact ["_law_told", "_law_due"] (spExact n)
  | 0 => by
    refine T.D_law_exact.F.ok sc_law_exact (fun vs H Q E h => ?_) (fun cdv A outer s H vs Q E hr h => ?_)
    · obtain ⟨v, u, rfl, _⟩ := h
      rfl
    · obtain ⟨v, u, rfl, hE, q⟩ := h
      exact hE.elim
  | n + 1 => by
    have G_law_exact : FnOk P w K mg base CX0 (n + 1) T.a_law_exact T.d_law_exact ["_law_told", "_law_due"] (spExact n) := ok_exact T n
    refine T.D_law_exact.F.ok sc_law_exact (fun vs H Q E h => ?_) (fun cdv A outer s H vs Q E hr h => ?_)
    · obtain ⟨v, u, rfl, _⟩ := h
      rfl
    · obtain ⟨v, u, rfl, hE, q⟩ := h
      refine ⟨_, (pss_cons (ps_if (pt_val (pe_callB call_isi (by rfl) T.n_isinstance (by decide +kernel) (pa_cons (pv 1) (pa_cons (pe_bltn (v := .ty "tuple") (by rfl) T.n_tuple (by decide +kernel) rfl) pa_nil)))) (pss_cons (ps_if (PW.pt (pw_or (pt_not (pt_val (pe_callB call_isi (by rfl) T.n_isinstance (by decide +kernel) (pa_cons (pv 0) (pa_cons (pe_bltn (v := .ty "tuple") (by rfl) T.n_tuple (by decide +kernel) rfl) pa_nil))))) (pw_or1 (pt_cmpR op_ne (pe_callB call_len (by rfl) T.n_len PySem.boot_len (pa_cons (pv 0) pa_nil)) (pe_callB call_len (by rfl) T.n_len PySem.boot_len (pa_cons (pv 1) pa_nil)) (nomark _))))) (pss_one (ps_ret pe_bl)) pss_nil)
      (pss_cons (ps_for PassesOwn.never rfl (pi_range1 (by rfl) T.n_range (pa_cons (pe_callB call_len (by rfl) T.n_len PySem.boot_len (pa_cons (pv 1) pa_nil)) pa_nil)) (pg_name (i := 2) sc_law_exact.nd rfl (.inl rfl)) (pss_one (ps_if (pt_not (pt_val (pe_call G_law_exact hr (by rfl) T.D_law_exact.G T.D_law_exact.F.kp T.D_law_exact.B .nil pass0 (pa_cons (pe_ix ix_seq (pv 0) (pv 2) (fun _ _ => rfl)) (pa_cons (pe_ix ix_seq (pv 1) (pv 2) (fun _ _ => rfl)) pa_nil))))) (pss_one (ps_ret pe_bl)) pss_nil)))
      (pss_one (ps_ret pe_bl)))) pss_nil)
      (pss_cons (ps_if (pt_cmpR op_isN (pv 1) pe_non (nomark _)) (pss_one (ps_ret (pe_cmpR op_isN (pv 0) pe_non (nomark _)))) pss_nil)
      (pss_cons (ps_if (pt_val (pe_callB call_isi (by rfl) T.n_isinstance (by decide +kernel) (pa_cons (pv 1) (pa_cons (pe_bltn (v := .ty "bool") (by rfl) T.n_bool (by decide +kernel) rfl) pa_nil)))) (pss_one (ps_ret (pe_and (pe_callB call_isi (by rfl) T.n_isinstance (by decide +kernel) (pa_cons (pv 0) (pa_cons (pe_bltn (v := .ty "bool") (by rfl) T.n_bool (by decide +kernel) rfl) pa_nil))) (pe_one (pe_cmpR op_eq (pv 0) (pv 1) (nomark _)))))) pss_nil)
      (pss_cons (ps_if (pt_val (pe_callB call_isi (by rfl) T.n_isinstance (by decide +kernel) (pa_cons (pv 1) (pa_cons (pe_bltn (v := .ty "int") (by rfl) T.n_int (by decide +kernel) rfl) pa_nil)))) (pss_one (ps_ret (pe_and (pe_callB call_isi (by rfl) T.n_isinstance (by decide +kernel) (pa_cons (pv 0) (pa_cons (pe_bltn (v := .ty "int") (by rfl) T.n_int (by decide +kernel) rfl) pa_nil))) (pe_and (pe_not (pe_callB call_isi (by rfl) T.n_isinstance (by decide +kernel) (pa_cons (pv 0) (pa_cons (pe_bltn (v := .ty "bool") (by rfl) T.n_bool (by decide +kernel) rfl) pa_nil)))) (pe_one (pe_cmpR op_eq (pv 0) (pv 1) (nomark _))))))) pss_nil)
      (pss_one (ps_ret (pe_and (pe_callB call_isi (by rfl) T.n_isinstance (by decide +kernel) (pa_cons (pv 0) (pa_cons (pe_bltn (v := .ty "str") (by rfl) T.n_str (by decide +kernel) rfl) pa_nil))) (pe_one (pe_cmpR op_eq (pv 0) (pv 1) (nomark _)))))))))), ?_⟩
      rcases hE with (⟨z, rfl, rfl⟩ | ⟨i, rfl, rfl⟩ | ⟨rfl, rfl⟩) | ⟨a, b, xs, ys, rfl, rfl, ha, hb, el, en, hE⟩
      · refine ⟨_, rfl, _, _, .type "str", .type "tuple", false, rfl, .ty _, .base (.str _), kit_ty (by decide +kernel), _, rfl, ?_⟩
        refine ⟨_, rfl, rfl, false, bl_of (decide_eq_false (fun e => by cases e)), ?_⟩
        refine ⟨_, rfl, _, _, .type "str", .type "bool", false, rfl, .ty _, .base (.str _), kit_ty (by decide +kernel), _, rfl, ?_⟩
        refine ⟨_, rfl, _, _, .type "str", .type "int", false, rfl, .ty _, .base (.str _), kit_ty (by decide +kernel), _, rfl, ?_⟩
        exact ⟨_, rfl, _, _, .type "str", .type "str", true, rfl, .ty _, .base (.str _), kit_ty (by decide +kernel), true, rfl, _, rfl, _, rfl, rfl, eq_self q⟩
      · refine ⟨_, rfl, _, _, .type "int", .type "tuple", false, rfl, .ty _, .base (.int _), kit_ty (by decide +kernel), _, rfl, ?_⟩
        refine ⟨_, rfl, rfl, false, bl_of (decide_eq_false (fun e => by cases e)), ?_⟩
        refine ⟨_, rfl, _, _, .type "int", .type "bool", false, rfl, .ty _, .base (.int _), kit_ty (by decide +kernel), _, rfl, ?_⟩
        refine ⟨_, rfl, _, _, .type "int", .type "int", true, rfl, .ty _, .base (.int _), kit_ty (by decide +kernel), _, rfl, ?_⟩
        exact ⟨_, rfl, _, _, .type "int", .type "int", true, rfl, .ty _, .base (.int _), kit_ty (by decide +kernel), true, rfl, _, rfl, _, _, .type "int", .type "bool", false, rfl, .ty _, .base (.int _), kit_ty (by decide +kernel), false, rfl, true, rfl, _, rfl, _, rfl, rfl, eq_self q⟩
      · refine ⟨_, rfl, _, _, .type "NoneType", .type "tuple", false, rfl, .ty _, .base .non, kit_ty (by decide +kernel), _, rfl, ?_⟩
        exact ⟨_, rfl, rfl, true, bl_of (decide_eq_true rfl), _, rfl, rfl, eq_self q⟩
      · refine ⟨_, rfl, _, _, .type "tuple", .type "tuple", true, rfl, .ty _, .base (.tup hb), kit_ty (by decide +kernel), _, rfl, ?_⟩
        refine ⟨_, rfl, _, _, .type "tuple", .type "tuple", true, rfl, .ty _, .base (.tup ha), kit_ty (by decide +kernel), _, rfl, ?_⟩
        refine ⟨_, rfl, _, _, rfl, .inr ⟨_, SqT.of ha, rfl⟩, _, rfl, _, _, rfl, .inr ⟨_, SqT.of hb, rfl⟩, rfl, false, ?_, ?_⟩
        · rw [el, decide_eq_true rfl]; rfl
        refine ⟨_, rfl, _, _, rfl, .inr ⟨_, SqT.of hb, rfl⟩, _, rfl, by omega, by omega, ?_⟩
        refine for_range (lo := 0) (n := ((ys.length : Nat) : Int).toNat) (fun i σ' H' => H' = H ∧ ∃ x2 : Option V, σ' = [some (.ref a), some (.ref b), x2]) ⟨rfl, none, rfl⟩ ?_ ?_
        · rintro i σ' H' hi ⟨rfl, x2, rfl⟩
          have hi2 : i < ys.length := by omega
          have hi1 : i < xs.length := by omega
          have gx : xs[i]? = some xs[i] := List.getElem?_eq_getElem hi1
          have gy : ys[i]? = some ys[i] := List.getElem?_eq_getElem hi2
          have e0 : ((0 : Int) + (i : Int)) = (i : Int) := Int.zero_add _
          refine ⟨_, rfl, _, rfl, .inr (.inl ⟨a, xs, _, _, rfl, rfl, SqT.of ha, at_of e0 gx, ?_⟩)⟩
          refine ⟨_, rfl, _, rfl, .inr (.inl ⟨b, ys, _, _, rfl, rfl, SqT.of hb, at_of e0 gy, ?_⟩)⟩
          exact ⟨_, _, rfl, hE i _ _ gx gy, true, rfl, rfl, _, rfl⟩
        · rintro σ' H' ⟨rfl, x2, rfl⟩
          exact q
end
end Vf

set_option Elab.async false
set_option linter.all false
set_option maxRecDepth 100000
set_option maxHeartbeats 4000000
namespace Vf
open PySem PySem.Spec PyProof.Rows L2 TL
theorem ints_eqv {H : Hp} {a b : Addr} {l : List Nat} (ha : H a = some (.tup (l.map nV))) (hb : H b = some (.tup (l.map nV))) (h : l.length ≤ 1000) : Eqv 2 H (.ref a) (.ref b) := by
  refine .inr ⟨a, b, _, _, rfl, rfl, ha, hb, rfl, by rw [List.length_map]; omega, fun i x y hx hy => ?_⟩
  rw [hx] at hy
  have := Option.some.inj hy
  subst this
  rw [List.getElem?_map] at hx
  cases g : l[i]? with
  | none => rw [g] at hx; cases hx
  | some z =>
    rw [g] at hx
    exact .inl (.inr (.inl ⟨(z : Int), (Option.some.inj hx).symm, (Option.some.inj hx).symm⟩))
theorem RM.same {cs cs' : List Arc} (m : ∀ r, r ∈ cs ↔ r ∈ cs') {a b v : Nat} (h : RM cs b a v) : RM cs' b a v := by
  obtain ⟨⟨xs, h1⟩, h2⟩ := h
  exact ⟨⟨xs, h1.same m⟩, fun ys s hy => h2 ys s (hy.same fun r => (m r).symm)⟩
/-- the law's least chain is the program's -/
theorem least_is {cs : List Arc} {b t top : Nat} {c pre : List Nat} {rows : List (Nat × List Nat)} (hr : ∀ t c, (t, c) ∈ rows ↔ ∃ xs, c = 0 :: xs ∧ Ch cs 0 xs b t) (m1 : (t, c) ∈ rows) (m2 : ∀ r ∈ rows, r.1 ≤ t) (m3 : ∀ c', (t, c') ∈ rows → ¬ iL c' < iL c)
    (rm : RM cs b 0 top) (c0 : Ch cs 0 pre b top) (c1 : ∀ xs, Ch cs 0 xs b top → xs = pre ∨ SD pre xs) : c = 0 :: pre := by
  obtain ⟨xs, rfl, hx⟩ := (hr t c).mp m1
  have h1 : (top, 0 :: pre) ∈ rows := (hr _ _).mpr ⟨pre, rfl, c0⟩
  have h2 := m2 _ h1
  have h3 := rm.2 _ _ hx
  have e : t = top := Nat.le_antisymm h3 h2
  subst e
  rcases c1 xs hx with h | h
  · rw [h]
  · exact absurd (show iL (0 :: pre) < iL (0 :: xs) from List.Lex.cons h.lt) (m3 _ h1)
theorem ChE.kp {d l F : Addr} {H H' : Hp} {cs : List Arc} {v : V} {i : Nat} (h : ChE cs F H v i) (D : DI d l H) (k : Kp d H H') : ChE cs F H' v i := by
  obtain ⟨L, us, rows, e1, n2, e2, h2, p2, l2, c2⟩ := h
  have hLd : L ≠ d := fun z => by
    obtain ⟨_, _, i, b, s, c, _, h3⟩ := D
    rw [z, h3] at e2
    have e2 := HO.lst.inj (Option.some.inj e2)
    have hl := h2.1
    rw [← e2] at hl
    have hl1 : 1 < rows.length := by rw [← hl]; show 1 < 5; decide
    obtain ⟨x, hx, bb, pp, ex, _⟩ := h2.2 1 rows[1] (List.getElem?_eq_getElem hl1)
    rw [← e2] at hx
    have hx := Option.some.inj hx
    rw [ex] at hx
    cases hx
  exact ⟨L, us, rows, e1, n2, k _ _ hLd e2, h2.mono fun x r h => h.mono (kpTup D k), p2, l2, c2⟩
theorem ChE.same {F : Addr} {H H' : Hp} {cs : List Arc} {v : V} {i : Nat} (h : ChE cs F H v i) (k : Same H H') : ChE cs F H' v i := by
  obtain ⟨L, us, rows, e1, n2, e2, h2, p2, l2, c2⟩ := h
  exact ⟨L, us, rows, e1, n2, k _ _ e2, h2.mono fun x r h => h.mono (same_tups k), p2, l2, c2⟩
section
variable {P : Program} {w : World} {K : PySem.W.Frag} {mg : Str → Option Value} {base : Heap}
def spLaw (K : PySem.W.Frag) : Sp := fun vs H Q _ => ∃ (a : Addr) (ns : List Int), vs = [.ref a] ∧ SqL K H a (ns.map V.int) ∧ ns.length ≤ 63 ∧ ∀ H', Q (.bl true) H'
theorem ok_law (T : Txt K mg) : FnOk P w K mg base CX0 5 T.a_law T.d_law ["_law_script"] (spLaw K) := by
  have G_law_begin : FnOk P w K mg base CX0 1 T.a_law_begin T.d_law_begin ["_law_script"] (spBegin K) := ok_begin T
  have G_law_table_drawn : FnOk P w K mg base CX0 4 T.a_law_table_drawn T.d_law_table_drawn ["_law_d"] spTable := ok_table T
  have G_law_chains : FnOk P w K mg base CX0 2 T.a_law_chains T.d_law_chains ["_law_tracks", "_law_cells"] spChainsE := ok_chainsE T
  have G_law_least_chain : FnOk P w K mg base CX0 1 T.a_law_least_chain T.d_law_least_chain ["_law_rows"] spLeast := ok_least T
  have G_law_shuffled : FnOk P w K mg base CX0 2 T.a_law_shuffled T.d_law_shuffled ["_law_d", "_law_row"] spShufV := ok_shufV T
  have G_chain_of : FnOk P w K mg base CX0 2 T.a_chain_of T.d_chain_of ["tracks", "cells", "boundary"] spChainOf := ok_chain_of T
  have G_law_exact : FnOk P w K mg base CX0 3 T.a_law_exact T.d_law_exact ["_law_told", "_law_due"] (spExact 2) := ok_exact T 2
  refine T.D_law.F.ok sc_law (fun vs H Q E h => ?_) (fun cdv A outer s H vs Q E hr h => ?_)
  · obtain ⟨a, ns, rfl, _⟩ := h
    rfl
  · obtain ⟨a, ns, rfl, hS, hl, q⟩ := h
    refine ⟨_, (pss_cons (ps_set (i := 1) sc_law.nd rfl (.inl rfl) (pe_call G_law_begin (hr.mono (by decide)) (by rfl) T.D_law_begin.G T.D_law_begin.F.kp T.D_law_begin.B .nil pass0 (pa_cons (pv 0) pa_nil)))
      (pss_cons (ps_set (i := 2) sc_law.nd rfl (.inl rfl) (pe_call G_law_table_drawn (hr.mono (by decide)) (by rfl) T.D_law_table_drawn.G T.D_law_table_drawn.F.kp T.D_law_table_drawn.B .nil pass0 (pa_cons (pv 1) pa_nil)))
      (pss_cons (ps_set (i := 3) sc_law.nd rfl (.inl rfl) (pe_call G_law_table_drawn (hr.mono (by decide)) (by rfl) T.D_law_table_drawn.G T.D_law_table_drawn.F.kp T.D_law_table_drawn.B .nil pass0 (pa_cons (pv 1) pa_nil)))
      (pss_cons (ps_for PassesOwn.never rfl (pi_list (pe_lst (pa_cons (pv 2) (pa_cons (pv 3) (pa_cons (pv 2) pa_nil))))) (pg_tup (by rfl) (pgs_cons (pg_name (i := 4) sc_law.nd rfl (.inl rfl)) (pgs_cons (pg_name (i := 5) sc_law.nd rfl (.inl rfl)) pgs_nil))) (pss_cons (ps_set (i := 6) sc_law.nd rfl (.inl rfl) (pe_call G_law_chains (hr.mono (by decide)) (by rfl) T.D_law_chains.G T.D_law_chains.F.kp T.D_law_chains.B .nil pass0 (pa_cons (pv 4) (pa_cons (pv 5) pa_nil))))
      (pss_cons (ps_set (i := 7) sc_law.nd rfl (.inl rfl) (pe_callTy call_tuple_of (by rfl) T.n_tuple (by decide +kernel) (pa_cons (pe_call G_law_shuffled (hr.mono (by decide)) (by rfl) T.D_law_shuffled.G T.D_law_shuffled.F.kp T.D_law_shuffled.B .nil pass0 (pa_cons (pv 1) (pa_cons (pe_op op_cat (pe_callTy call_list_of (by rfl) T.n_list (by decide +kernel) (pa_cons (pv 5) pa_nil)) (pe_callTy call_list_of (by rfl) T.n_list (by decide +kernel) (pa_cons (pe_slice sl_tupA (pv 5) po_none (po_some pe_int)) pa_nil))) pa_nil))) pa_nil)))
      (pss_one (ps_for PassesOwn.never rfl (pi_range1 (by rfl) T.n_range (pa_cons (pe_op op_add (pv 4) pe_int) pa_nil)) (pg_name (i := 8) sc_law.nd rfl (.inl rfl)) (pss_cons (ps_set (i := 9) sc_law.nd rfl (.inl rfl) (pe_call G_law_least_chain (hr.mono (by decide)) (by rfl) T.D_law_least_chain.G T.D_law_least_chain.F.kp T.D_law_least_chain.B .nil pass0 (pa_cons (pe_ix ix_list (pv 6) (pv 8) (fun _ _ => rfl)) pa_nil)))
      (pss_cons (ps_if (pt_not (pt_val (pe_call G_law_exact (hr.mono (by decide)) (by rfl) T.D_law_exact.G T.D_law_exact.F.kp T.D_law_exact.B .nil pass0 (pa_cons (pe_call G_chain_of (hr.mono (by decide)) (by rfl) T.D_chain_of.G T.D_chain_of.F.kp T.D_chain_of.B .nil pass0 (pa_cons (pv 4) (pa_cons (pv 5) (pa_cons (pv 8) pa_nil)))) (pa_cons (pv 9) pa_nil))))) (pss_one (ps_ret pe_bl)) pss_nil)
      (pss_one (ps_if (pt_not (pt_val (pe_call G_law_exact (hr.mono (by decide)) (by rfl) T.D_law_exact.G T.D_law_exact.F.kp T.D_law_exact.B .nil pass0 (pa_cons (pe_call G_chain_of (hr.mono (by decide)) (by rfl) T.D_chain_of.G T.D_chain_of.F.kp T.D_chain_of.B .nil pass0 (pa_cons (pv 4) (pa_cons (pv 7) (pa_cons (pv 8) pa_nil)))) (pa_cons (pv 9) pa_nil))))) (pss_one (ps_ret pe_bl)) pss_nil)))))))))
      (pss_one (ps_ret pe_bl)))))), ?_⟩
    refine ⟨_, rfl, a, ns, rfl, hS, hl, fun H1 d l s1 D1 => ?_⟩
    refine ⟨_, rfl, d, l, rfl, D1, fun H2 t1 v1 n1 c1 k2 D2 e1 h1 o1 m1 => ?_⟩
    refine ⟨_, rfl, d, l, rfl, D2, fun H3 t2 v2 n2 c2 k3 D3 e2 h2 o2 m2 => ?_⟩
    have e1 := kpTup D2 k3 _ _ e1
    have h1 := h1.mono (kpTup D2 k3)
    refine ⟨_, rfl, _, rfl, _, rfl, by show 3 ≤ sizeLine; decide, fun L nL => ?_⟩
    have s4 := same_upd (o := .lst [V.ref t1, V.ref t2, V.ref t1]) (Same.refl H3) nL
    have D4 := D3.keep s4
    have eL : upd H3 L (.lst [V.ref t1, V.ref t2, V.ref t1]) L = some (.lst [V.ref t1, V.ref t2, V.ref t1]) := upd_same
    have dL := D3.nd nL
    have h1 := h1.mono (same_tups s4)
    have h2 := h2.mono (same_tups s4)
    have e1 := s4 _ _ e1
    have e2 := s4 _ _ e2
    generalize upd H3 L (.lst [V.ref t1, V.ref t2, V.ref t1]) = H4 at D4 eL h1 h2 e1 e2
    refine ⟨L, rfl, ⟨_, SqL.of eL⟩, ?_⟩
    refine for_it (walk_list (K := K) (a := L) (xs := [V.ref t1, V.ref t2, V.ref t1])) (fun i σ' H' => ∃ (x4 x5 x6 x7 x8 x9 : Option V), σ' = [some (.ref a), some (.ref d), some (.ref t1), some (.ref t2), x4, x5, x6, x7, x8, x9] ∧ Kp d H4 H' ∧ DI d l H') ⟨none, none, none, none, none, none, rfl, Kp.refl d H4, D4⟩ ?_ ?_ ?_
    · rintro i σ' H' _ ⟨_, _, _, _, _, _, _, k, _⟩
      exact SqL.of (k _ _ dL.1 eL)
    · rintro i x σ' H5 H6 hi ⟨x4, x5, x6, x7, x8, x9, rfl, k5, D5⟩ ⟨rfl, hx⟩
      obtain ⟨t, v, n, cs, rfl, et, hv, ok, l500, n11⟩ : ∃ (t : Addr) (v : V) (n : Nat) (cs : List Arc), x = .ref t ∧ H4 t = some (.tup [nV n, v]) ∧ CellsV H4 v cs ∧ TabOk n cs ∧ cs.length ≤ 500 ∧ n ≤ 11 := by
        have hi : i < 3 := hi
        match i, hx with
        | 0, hx => exact ⟨t1, v1, n1, c1, (Option.some.inj hx).symm, e1, h1, o1, m1⟩
        | 1, hx => exact ⟨t2, v2, n2, c2, (Option.some.inj hx).symm, e2, h2, o2, m2⟩
        | 2, hx => exact ⟨t1, v1, n1, c1, (Option.some.inj hx).symm, e1, h1, o1, m1⟩
      have kt := kpTup D4 k5
      refine ⟨t, _, rfl, SqT.of (kt _ _ et), rfl, _, _, rfl, _, _, rfl, rfl, ?_⟩
      refine ⟨_, rfl, _, rfl, v, n, cs, rfl, hv.mono kt, ok.2.2.1, n11, fun H7 F ws k7 nF eF lw hws => ?_⟩
      have hFd := (D5.nd nF).1
      have hv7 := (hv.mono kt).mono (same_tups k7)
      have D7 := D5.keep k7
      obtain ⟨ca, us, rfl, e7, lv⟩ := id hv7
      refine ⟨_, rfl, _, rfl, ca, us, rfl, .inr (SqT.of e7), fun A1 nA1 => ?_⟩
      have kA1 := same_upd (o := .lst us) (Same.refl H7) nA1
      have eA1 : upd H7 A1 (.lst us) A1 = some (.lst us) := upd_same
      generalize upd H7 A1 (.lst us) = H8 at kA1 eA1
      refine ⟨_, rfl, _, rfl, slA_any (kA1 _ _ e7) fun bS H9 k9 eS => ?_⟩
      rw [cut_one] at eS
      refine ⟨bS, _, rfl, .inr (SqT.of eS), fun A2 nA2 => ?_⟩
      have kA2 := same_upd (o := .lst (us.take 1)) (Same.refl H9) nA2
      have eA2 : upd H9 A2 (.lst (us.take 1)) A2 = some (.lst (us.take 1)) := upd_same
      generalize upd H9 A2 (.lst (us.take 1)) = H10 at kA2 eA2
      have lu : us.length = cs.length := lv.1
      have lc := ok.2.2.1
      refine ⟨A1, A2, _, _, rfl, rfl, kA2 _ _ (k9 _ _ eA1), eA2, by rw [List.length_take]; exact Nat.le_of_lt (szN (by omega)), fun A3 nA3 => ?_⟩
      have kA3 := same_upd (o := .lst (us ++ us.take 1)) (Same.refl H10) nA3
      have eA3 : upd H10 A3 (.lst (us ++ us.take 1)) A3 = some (.lst (us ++ us.take 1)) := upd_same
      generalize upd H10 A3 (.lst (us ++ us.take 1)) = H11 at kA3 eA3
      have kk := ((kA1.trans k9).trans kA2).trans kA3
      have D11 := D7.keep kk
      refine ⟨d, l, A3, _, rfl, D11, eA3, by rw [List.length_append, List.length_take]; omega, fun H12 p ws2 k12 D12 np ep hp => ?_⟩
      refine ⟨p, ws2, rfl, .inl ⟨SqL.of ep, fun O nO => ?_⟩⟩
      have kO := same_upd (o := .tup ws2) (Same.refl H12) nO
      have eO : upd H12 O (.tup ws2) O = some (.tup ws2) := upd_same
      have D13 := D12.keep kO
      generalize upd H12 O (.tup ws2) = H13 at kO eO D13
      have t13 : ∀ a xs, H7 a = some (.tup xs) → H13 a = some (.tup xs) := fun a xs e => kO _ _ (kpTup D11 k12 _ _ (kk _ _ e))
      have hv13 := hv7.mono t13
      obtain ⟨ds, l2, m1, m2⟩ := cells_perm ((lv.app (lv.takeN 1)).mono fun x r z => ArcV.mono z t13) hp
      have mem : ∀ r, r ∈ ds ↔ r ∈ cs := by
        intro r
        constructor
        · intro h
          rcases List.mem_append.mp (m1 r h) with h | h
          · exact h
          · exact List.mem_of_mem_take h
        · exact fun h => m2 r (List.mem_append_left _ h)
      have lds : ds.length ≤ 1000 := by
        have e1 := l2.1
        have e2 := hp.length_eq
        rw [List.length_append, List.length_take] at e2
        omega
      have hO : CellsV H13 (.ref O) ds := ⟨O, ws2, rfl, eO, l2⟩
      have okO : TabOk n ds := ⟨ok.1, ok.2.1, lds, fun r h => ok.2.2.2 r ((mem r).mp h)⟩
      have k713 : Kp d H7 H13 := fun b o nb e => kO _ _ (k12 _ _ nb (kk _ _ e))
      have eF13 := k713 _ _ hFd eF
      have hws13 : ∀ i v, ws[i]? = some v → ChE cs F H13 v i := fun i v h => (((hws i v h).same kk).kp D11 k12).same kO
      refine ⟨_, rfl, _, _, rfl, rfl, ((n + 1 : Nat) : Int), rfl, by omega, by omega, ?_⟩
      rw [Int.toNat_natCast]
      refine for_it walk_range (fun i σ' H' => ∃ (x8 x9 : Option V), σ' = [some (.ref a), some (.ref d), some (.ref t1), some (.ref t2), some (nV n), some (.ref ca), some (.ref F), some (.ref O), x8, x9] ∧ Same H13 H') ⟨x8, x9, rfl, Same.refl _⟩ (fun _ _ _ _ _ => trivial) ?_ ?_
      · rintro i x σ' H14 H15 hi ⟨x8, x9, rfl, k14⟩ ⟨rfl, hx⟩
        have hx : x = nV i := by rw [hx]; show V.int (0 + (i : Int)) = _; rw [Int.zero_add]; rfl
        subst hx
        have gi : ws[i]? = some ws[i] := List.getElem?_eq_getElem (by omega)
        obtain ⟨L2, us2, rows, eL2, nLF, hL2, lv2, p2, q2, c2⟩ := (hws13 i _ gi).same k14
        rw [eL2] at gi
        have pwl := pw_le (i := i) (by omega)
        refine ⟨_, rfl, _, rfl, F, _, _, _, rfl, rfl, SqL.of (k14 _ _ eF13), atI_nat gi, L2, us2, rows, rfl, hL2, lv2, p2, by omega, fun H16 p t c k16 ep m1 m2 m3 => ?_⟩
        have k1316 := k14.trans k16
        refine ⟨_, rfl, _, rfl, _, rfl, _, n, i, cs, rfl, hv13.mono (same_tups k1316), ok, by omega, fun H17 B1 pre top k17 eB1 rm c0 c1 => ?_⟩
        have e9 := least_is c2 m1 m2 m3 rm c0 c1
        rw [← e9] at eB1
        have lc9 : c.length ≤ 1000 := by
          have := c0.len
          rw [e9, List.length_cons]; omega
        refine ⟨_, rfl, _, _, rfl, ints_eqv eB1 (k17 _ _ ep) lc9, true, rfl, ?_⟩
        have k1317 := k1316.trans k17
        refine ⟨_, rfl, _, rfl, _, rfl, _, n, i, ds, rfl, hO.mono (same_tups k1317), okO, by omega, fun H18 B2 pre2 top2 k18 eB2 rm2 c02 c12 => ?_⟩
        have e92 := least_is c2 m1 m2 m3 (rm2.same mem) (c02.same mem) (fun xs h => c12 xs (h.same fun r => (mem r).symm))
        rw [← e92] at eB2
        refine ⟨_, rfl, _, _, rfl, ints_eqv eB2 (k18 _ _ (k17 _ _ ep)) lc9, true, rfl, ?_⟩
        exact ⟨_, _, rfl, k1317.trans k18⟩
      · rintro σ' H14 ⟨x8, x9, rfl, k14⟩
        have kfin : Kp d H4 H14 := fun b o nb e => k14 _ _ (k713 _ _ nb (k7 _ _ (k5 _ _ nb e)))
        exact ⟨_, _, _, _, _, _, rfl, kfin, D13.keep k14⟩
    · rintro σ' H5 ⟨x4, x5, x6, x7, x8, x9, rfl, k5, D5⟩
      exact q _
end
theorem all_mk {l : PySem.W.OpenLaw} {w : World} {K : PySem.W.Frag} {h : Heap} {mg : Str → Option Value} {fa : Addr} (X : K.In h) (G : h.Ns mainGlobals mg) (hfa : mg "law" = some (.ref fa))
    {f_chain_of : Addr} {od_chain_of an_chain_of : Option Addr} {sl_chain_of : Array (Option Value)} {oc_chain_of kV_chain_of dc_chain_of pm_chain_of cd_chain_of ct_chain_of : Value}
    (a_chain_of : PySem.W.nsIn K mainGlobals "chain_of" = some (some (.ref f_chain_of))) (l_chain_of : K.lookup f_chain_of = some ⟨oc_chain_of, od_chain_of, .func (PySem.W.fnOf "chain_of" "chain_of" (defArgs s_chain_of) (defBody s_chain_of) (defScope s_chain_of) .none kV_chain_of dc_chain_of pm_chain_of an_chain_of cd_chain_of ct_chain_of), sl_chain_of⟩) (c_chain_of : PySem.W.codeIn K cd_chain_of "chain_of" = true) (k_chain_of : PySem.W.keepIn K (.ref f_chain_of) = true)
    {f_demands : Addr} {od_demands an_demands : Option Addr} {sl_demands : Array (Option Value)} {oc_demands kV_demands dc_demands pm_demands cd_demands ct_demands : Value}
    (a_demands : PySem.W.nsIn K mainGlobals "_demands" = some (some (.ref f_demands))) (l_demands : K.lookup f_demands = some ⟨oc_demands, od_demands, .func (PySem.W.fnOf "_demands" "_demands" (defArgs s_demands) (defBody s_demands) (defScope s_demands) .none kV_demands dc_demands pm_demands an_demands cd_demands ct_demands), sl_demands⟩) (c_demands : PySem.W.codeIn K cd_demands "_demands" = true) (k_demands : PySem.W.keepIn K (.ref f_demands) = true)
    {f_law_begin : Addr} {od_law_begin an_law_begin : Option Addr} {sl_law_begin : Array (Option Value)} {oc_law_begin kV_law_begin dc_law_begin pm_law_begin cd_law_begin ct_law_begin : Value}
    (a_law_begin : PySem.W.nsIn K mainGlobals "_law_begin" = some (some (.ref f_law_begin))) (l_law_begin : K.lookup f_law_begin = some ⟨oc_law_begin, od_law_begin, .func (PySem.W.fnOf "_law_begin" "_law_begin" (defArgs s_law_begin) (defBody s_law_begin) (defScope s_law_begin) .none kV_law_begin dc_law_begin pm_law_begin an_law_begin cd_law_begin ct_law_begin), sl_law_begin⟩) (c_law_begin : PySem.W.codeIn K cd_law_begin "_law_begin" = true) (k_law_begin : PySem.W.keepIn K (.ref f_law_begin) = true)
    {f_law_draw : Addr} {od_law_draw an_law_draw : Option Addr} {sl_law_draw : Array (Option Value)} {oc_law_draw kV_law_draw dc_law_draw pm_law_draw cd_law_draw ct_law_draw : Value}
    (a_law_draw : PySem.W.nsIn K mainGlobals "_law_draw" = some (some (.ref f_law_draw))) (l_law_draw : K.lookup f_law_draw = some ⟨oc_law_draw, od_law_draw, .func (PySem.W.fnOf "_law_draw" "_law_draw" (defArgs s_law_draw) (defBody s_law_draw) (defScope s_law_draw) .none kV_law_draw dc_law_draw pm_law_draw an_law_draw cd_law_draw ct_law_draw), sl_law_draw⟩) (c_law_draw : PySem.W.codeIn K cd_law_draw "_law_draw" = true) (k_law_draw : PySem.W.keepIn K (.ref f_law_draw) = true)
    {f_law_pick : Addr} {od_law_pick an_law_pick : Option Addr} {sl_law_pick : Array (Option Value)} {oc_law_pick kV_law_pick dc_law_pick pm_law_pick cd_law_pick ct_law_pick : Value}
    (a_law_pick : PySem.W.nsIn K mainGlobals "_law_pick" = some (some (.ref f_law_pick))) (l_law_pick : K.lookup f_law_pick = some ⟨oc_law_pick, od_law_pick, .func (PySem.W.fnOf "_law_pick" "_law_pick" (defArgs s_law_pick) (defBody s_law_pick) (defScope s_law_pick) .none kV_law_pick dc_law_pick pm_law_pick an_law_pick cd_law_pick ct_law_pick), sl_law_pick⟩) (c_law_pick : PySem.W.codeIn K cd_law_pick "_law_pick" = true) (k_law_pick : PySem.W.keepIn K (.ref f_law_pick) = true)
    {f_law_rare : Addr} {od_law_rare an_law_rare : Option Addr} {sl_law_rare : Array (Option Value)} {oc_law_rare kV_law_rare dc_law_rare pm_law_rare cd_law_rare ct_law_rare : Value}
    (a_law_rare : PySem.W.nsIn K mainGlobals "_law_rare" = some (some (.ref f_law_rare))) (l_law_rare : K.lookup f_law_rare = some ⟨oc_law_rare, od_law_rare, .func (PySem.W.fnOf "_law_rare" "_law_rare" (defArgs s_law_rare) (defBody s_law_rare) (defScope s_law_rare) .none kV_law_rare dc_law_rare pm_law_rare an_law_rare cd_law_rare ct_law_rare), sl_law_rare⟩) (c_law_rare : PySem.W.codeIn K cd_law_rare "_law_rare" = true) (k_law_rare : PySem.W.keepIn K (.ref f_law_rare) = true)
    {f_law_shuffled : Addr} {od_law_shuffled an_law_shuffled : Option Addr} {sl_law_shuffled : Array (Option Value)} {oc_law_shuffled kV_law_shuffled dc_law_shuffled pm_law_shuffled cd_law_shuffled ct_law_shuffled : Value}
    (a_law_shuffled : PySem.W.nsIn K mainGlobals "_law_shuffled" = some (some (.ref f_law_shuffled))) (l_law_shuffled : K.lookup f_law_shuffled = some ⟨oc_law_shuffled, od_law_shuffled, .func (PySem.W.fnOf "_law_shuffled" "_law_shuffled" (defArgs s_law_shuffled) (defBody s_law_shuffled) (defScope s_law_shuffled) .none kV_law_shuffled dc_law_shuffled pm_law_shuffled an_law_shuffled cd_law_shuffled ct_law_shuffled), sl_law_shuffled⟩) (c_law_shuffled : PySem.W.codeIn K cd_law_shuffled "_law_shuffled" = true) (k_law_shuffled : PySem.W.keepIn K (.ref f_law_shuffled) = true)
    {f_law_exact : Addr} {od_law_exact an_law_exact : Option Addr} {sl_law_exact : Array (Option Value)} {oc_law_exact kV_law_exact dc_law_exact pm_law_exact cd_law_exact ct_law_exact : Value}
    (a_law_exact : PySem.W.nsIn K mainGlobals "_law_exact" = some (some (.ref f_law_exact))) (l_law_exact : K.lookup f_law_exact = some ⟨oc_law_exact, od_law_exact, .func (PySem.W.fnOf "_law_exact" "_law_exact" (defArgs s_law_exact) (defBody s_law_exact) (defScope s_law_exact) .none kV_law_exact dc_law_exact pm_law_exact an_law_exact cd_law_exact ct_law_exact), sl_law_exact⟩) (c_law_exact : PySem.W.codeIn K cd_law_exact "_law_exact" = true) (k_law_exact : PySem.W.keepIn K (.ref f_law_exact) = true)
    {f_law_cells_drawn : Addr} {od_law_cells_drawn an_law_cells_drawn : Option Addr} {sl_law_cells_drawn : Array (Option Value)} {oc_law_cells_drawn kV_law_cells_drawn dc_law_cells_drawn pm_law_cells_drawn cd_law_cells_drawn ct_law_cells_drawn : Value}
    (a_law_cells_drawn : PySem.W.nsIn K mainGlobals "_law_cells_drawn" = some (some (.ref f_law_cells_drawn))) (l_law_cells_drawn : K.lookup f_law_cells_drawn = some ⟨oc_law_cells_drawn, od_law_cells_drawn, .func (PySem.W.fnOf "_law_cells_drawn" "_law_cells_drawn" (defArgs s_law_cells_drawn) (defBody s_law_cells_drawn) (defScope s_law_cells_drawn) .none kV_law_cells_drawn dc_law_cells_drawn pm_law_cells_drawn an_law_cells_drawn cd_law_cells_drawn ct_law_cells_drawn), sl_law_cells_drawn⟩) (c_law_cells_drawn : PySem.W.codeIn K cd_law_cells_drawn "_law_cells_drawn" = true) (k_law_cells_drawn : PySem.W.keepIn K (.ref f_law_cells_drawn) = true)
    {f_law_demand : Addr} {od_law_demand an_law_demand : Option Addr} {sl_law_demand : Array (Option Value)} {oc_law_demand kV_law_demand dc_law_demand pm_law_demand cd_law_demand ct_law_demand : Value}
    (a_law_demand : PySem.W.nsIn K mainGlobals "_law_demand" = some (some (.ref f_law_demand))) (l_law_demand : K.lookup f_law_demand = some ⟨oc_law_demand, od_law_demand, .func (PySem.W.fnOf "_law_demand" "_law_demand" (defArgs s_law_demand) (defBody s_law_demand) (defScope s_law_demand) .none kV_law_demand dc_law_demand pm_law_demand an_law_demand cd_law_demand ct_law_demand), sl_law_demand⟩) (c_law_demand : PySem.W.codeIn K cd_law_demand "_law_demand" = true) (k_law_demand : PySem.W.keepIn K (.ref f_law_demand) = true)
    {f_law_chains : Addr} {od_law_chains an_law_chains : Option Addr} {sl_law_chains : Array (Option Value)} {oc_law_chains kV_law_chains dc_law_chains pm_law_chains cd_law_chains ct_law_chains : Value}
    (a_law_chains : PySem.W.nsIn K mainGlobals "_law_chains" = some (some (.ref f_law_chains))) (l_law_chains : K.lookup f_law_chains = some ⟨oc_law_chains, od_law_chains, .func (PySem.W.fnOf "_law_chains" "_law_chains" (defArgs s_law_chains) (defBody s_law_chains) (defScope s_law_chains) .none kV_law_chains dc_law_chains pm_law_chains an_law_chains cd_law_chains ct_law_chains), sl_law_chains⟩) (c_law_chains : PySem.W.codeIn K cd_law_chains "_law_chains" = true) (k_law_chains : PySem.W.keepIn K (.ref f_law_chains) = true)
    {f_law_least_chain : Addr} {od_law_least_chain an_law_least_chain : Option Addr} {sl_law_least_chain : Array (Option Value)} {oc_law_least_chain kV_law_least_chain dc_law_least_chain pm_law_least_chain cd_law_least_chain ct_law_least_chain : Value}
    (a_law_least_chain : PySem.W.nsIn K mainGlobals "_law_least_chain" = some (some (.ref f_law_least_chain))) (l_law_least_chain : K.lookup f_law_least_chain = some ⟨oc_law_least_chain, od_law_least_chain, .func (PySem.W.fnOf "_law_least_chain" "_law_least_chain" (defArgs s_law_least_chain) (defBody s_law_least_chain) (defScope s_law_least_chain) .none kV_law_least_chain dc_law_least_chain pm_law_least_chain an_law_least_chain cd_law_least_chain ct_law_least_chain), sl_law_least_chain⟩) (c_law_least_chain : PySem.W.codeIn K cd_law_least_chain "_law_least_chain" = true) (k_law_least_chain : PySem.W.keepIn K (.ref f_law_least_chain) = true)
    {f_law_table_drawn : Addr} {od_law_table_drawn an_law_table_drawn : Option Addr} {sl_law_table_drawn : Array (Option Value)} {oc_law_table_drawn kV_law_table_drawn dc_law_table_drawn pm_law_table_drawn cd_law_table_drawn ct_law_table_drawn : Value}
    (a_law_table_drawn : PySem.W.nsIn K mainGlobals "_law_table_drawn" = some (some (.ref f_law_table_drawn))) (l_law_table_drawn : K.lookup f_law_table_drawn = some ⟨oc_law_table_drawn, od_law_table_drawn, .func (PySem.W.fnOf "_law_table_drawn" "_law_table_drawn" (defArgs s_law_table_drawn) (defBody s_law_table_drawn) (defScope s_law_table_drawn) .none kV_law_table_drawn dc_law_table_drawn pm_law_table_drawn an_law_table_drawn cd_law_table_drawn ct_law_table_drawn), sl_law_table_drawn⟩) (c_law_table_drawn : PySem.W.codeIn K cd_law_table_drawn "_law_table_drawn" = true) (k_law_table_drawn : PySem.W.keepIn K (.ref f_law_table_drawn) = true)
    {f_law : Addr} {od_law an_law : Option Addr} {sl_law : Array (Option Value)} {oc_law kV_law dc_law pm_law cd_law ct_law : Value}
    (a_law : PySem.W.nsIn K mainGlobals "law" = some (some (.ref f_law))) (l_law : K.lookup f_law = some ⟨oc_law, od_law, .func (PySem.W.fnOf "law" "law" (defArgs s_law) (defBody s_law) (defScope s_law) .none kV_law dc_law pm_law an_law cd_law ct_law), sl_law⟩) (c_law : PySem.W.codeIn K cd_law "law" = true) (k_law : PySem.W.keepIn K (.ref f_law) = true)
    (n_bool : PySem.W.nsIn K mainGlobals "bool" = some none)
    (n_int : PySem.W.nsIn K mainGlobals "int" = some none)
    (n_isinstance : PySem.W.nsIn K mainGlobals "isinstance" = some none)
    (n_len : PySem.W.nsIn K mainGlobals "len" = some none)
    (n_list : PySem.W.nsIn K mainGlobals "list" = some none)
    (n_max : PySem.W.nsIn K mainGlobals "max" = some none)
    (n_min : PySem.W.nsIn K mainGlobals "min" = some none)
    (n_range : PySem.W.nsIn K mainGlobals "range" = some none)
    (n_reversed : PySem.W.nsIn K mainGlobals "reversed" = some none)
    (n_str : PySem.W.nsIn K mainGlobals "str" = some none)
    (n_tuple : PySem.W.nsIn K mainGlobals "tuple" = some none)
    : ∃ fd : FuncData, (∀ (s : Shared) (v : Value), BindsTo s fd ⟨[v], []⟩ [("_law_script", v)]) ∧ ∀ base : Heap, K.In base → base.Ns mainGlobals mg → FnOk l.prog w K mg base CX0 5 fa fd ["_law_script"] (spLaw K) := by
  have e := hfa.symm.trans (PySem.W.mg_of X G a_law)
  cases e
  have F_chain_of := fun_mk (st := s_chain_of) l_chain_of c_chain_of k_chain_of
  have b_chain_of := F_chain_of.binds (ps := ["tracks", "cells", "boundary"]) fun _ _ _ _ _ _ us hl => match us, hl with | [_, _, _], _ => rfl
  have F_demands := fun_mk (st := s_demands) l_demands c_demands k_demands
  have b_demands := F_demands.binds (ps := ["tracks", "cells"]) fun _ _ _ _ _ _ us hl => match us, hl with | [_, _], _ => rfl
  have F_law_begin := fun_mk (st := s_law_begin) l_law_begin c_law_begin k_law_begin
  have b_law_begin := F_law_begin.binds (ps := ["_law_script"]) fun _ _ _ _ _ _ us hl => match us, hl with | [_], _ => rfl
  have F_law_draw := fun_mk (st := s_law_draw) l_law_draw c_law_draw k_law_draw
  have b_law_draw := F_law_draw.binds (ps := ["_law_d", "_law_many"]) fun _ _ _ _ _ _ us hl => match us, hl with | [_, _], _ => rfl
  have F_law_pick := fun_mk (st := s_law_pick) l_law_pick c_law_pick k_law_pick
  have b_law_pick := F_law_pick.binds (ps := ["_law_d", "_law_row"]) fun _ _ _ _ _ _ us hl => match us, hl with | [_, _], _ => rfl
  have F_law_rare := fun_mk (st := s_law_rare) l_law_rare c_law_rare k_law_rare
  have b_law_rare := F_law_rare.binds (ps := ["_law_d", "_law_many"]) fun _ _ _ _ _ _ us hl => match us, hl with | [_, _], _ => rfl
  have F_law_shuffled := fun_mk (st := s_law_shuffled) l_law_shuffled c_law_shuffled k_law_shuffled
  have b_law_shuffled := F_law_shuffled.binds (ps := ["_law_d", "_law_row"]) fun _ _ _ _ _ _ us hl => match us, hl with | [_, _], _ => rfl
  have F_law_exact := fun_mk (st := s_law_exact) l_law_exact c_law_exact k_law_exact
  have b_law_exact := F_law_exact.binds (ps := ["_law_told", "_law_due"]) fun _ _ _ _ _ _ us hl => match us, hl with | [_, _], _ => rfl
  have F_law_cells_drawn := fun_mk (st := s_law_cells_drawn) l_law_cells_drawn c_law_cells_drawn k_law_cells_drawn
  have b_law_cells_drawn := F_law_cells_drawn.binds (ps := ["_law_d", "_law_tracks", "_law_many"]) fun _ _ _ _ _ _ us hl => match us, hl with | [_, _, _], _ => rfl
  have F_law_demand := fun_mk (st := s_law_demand) l_law_demand c_law_demand k_law_demand
  have b_law_demand := F_law_demand.binds (ps := ["_law_cells", "_law_first", "_law_last"]) fun _ _ _ _ _ _ us hl => match us, hl with | [_, _, _], _ => rfl
  have F_law_chains := fun_mk (st := s_law_chains) l_law_chains c_law_chains k_law_chains
  have b_law_chains := F_law_chains.binds (ps := ["_law_tracks", "_law_cells"]) fun _ _ _ _ _ _ us hl => match us, hl with | [_, _], _ => rfl
  have F_law_least_chain := fun_mk (st := s_law_least_chain) l_law_least_chain c_law_least_chain k_law_least_chain
  have b_law_least_chain := F_law_least_chain.binds (ps := ["_law_rows"]) fun _ _ _ _ _ _ us hl => match us, hl with | [_], _ => rfl
  have F_law_table_drawn := fun_mk (st := s_law_table_drawn) l_law_table_drawn c_law_table_drawn k_law_table_drawn
  have b_law_table_drawn := F_law_table_drawn.binds (ps := ["_law_d"]) fun _ _ _ _ _ _ us hl => match us, hl with | [_], _ => rfl
  have F_law := fun_mk (st := s_law) l_law c_law k_law
  have b_law := F_law.binds (ps := ["_law_script"]) fun _ _ _ _ _ _ us hl => match us, hl with | [_], _ => rfl
  exact ⟨PySem.W.fnOf "law" "law" (defArgs s_law) (defBody s_law) (defScope s_law) .none kV_law dc_law pm_law an_law cd_law ct_law, fun s v => .of_eq rfl, fun base _ _ => ok_law (T := {
    a_chain_of := _,
    d_chain_of := _,
    D_chain_of := ⟨F_chain_of, PySem.W.mg_of X G a_chain_of, b_chain_of, ⟨_, _, _, _, _, _, rfl⟩⟩,
    a_demands := _,
    d_demands := _,
    D_demands := ⟨F_demands, PySem.W.mg_of X G a_demands, b_demands, ⟨_, _, _, _, _, _, rfl⟩⟩,
    a_law_begin := _,
    d_law_begin := _,
    D_law_begin := ⟨F_law_begin, PySem.W.mg_of X G a_law_begin, b_law_begin, ⟨_, _, _, _, _, _, rfl⟩⟩,
    a_law_draw := _,
    d_law_draw := _,
    D_law_draw := ⟨F_law_draw, PySem.W.mg_of X G a_law_draw, b_law_draw, ⟨_, _, _, _, _, _, rfl⟩⟩,
    a_law_pick := _,
    d_law_pick := _,
    D_law_pick := ⟨F_law_pick, PySem.W.mg_of X G a_law_pick, b_law_pick, ⟨_, _, _, _, _, _, rfl⟩⟩,
    a_law_rare := _,
    d_law_rare := _,
    D_law_rare := ⟨F_law_rare, PySem.W.mg_of X G a_law_rare, b_law_rare, ⟨_, _, _, _, _, _, rfl⟩⟩,
    a_law_shuffled := _,
    d_law_shuffled := _,
    D_law_shuffled := ⟨F_law_shuffled, PySem.W.mg_of X G a_law_shuffled, b_law_shuffled, ⟨_, _, _, _, _, _, rfl⟩⟩,
    a_law_exact := _,
    d_law_exact := _,
    D_law_exact := ⟨F_law_exact, PySem.W.mg_of X G a_law_exact, b_law_exact, ⟨_, _, _, _, _, _, rfl⟩⟩,
    a_law_cells_drawn := _,
    d_law_cells_drawn := _,
    D_law_cells_drawn := ⟨F_law_cells_drawn, PySem.W.mg_of X G a_law_cells_drawn, b_law_cells_drawn, ⟨_, _, _, _, _, _, rfl⟩⟩,
    a_law_demand := _,
    d_law_demand := _,
    D_law_demand := ⟨F_law_demand, PySem.W.mg_of X G a_law_demand, b_law_demand, ⟨_, _, _, _, _, _, rfl⟩⟩,
    a_law_chains := _,
    d_law_chains := _,
    D_law_chains := ⟨F_law_chains, PySem.W.mg_of X G a_law_chains, b_law_chains, ⟨_, _, _, _, _, _, rfl⟩⟩,
    a_law_least_chain := _,
    d_law_least_chain := _,
    D_law_least_chain := ⟨F_law_least_chain, PySem.W.mg_of X G a_law_least_chain, b_law_least_chain, ⟨_, _, _, _, _, _, rfl⟩⟩,
    a_law_table_drawn := _,
    d_law_table_drawn := _,
    D_law_table_drawn := ⟨F_law_table_drawn, PySem.W.mg_of X G a_law_table_drawn, b_law_table_drawn, ⟨_, _, _, _, _, _, rfl⟩⟩,
    a_law := _,
    d_law := _,
    D_law := ⟨F_law, PySem.W.mg_of X G a_law, b_law, ⟨_, _, _, _, _, _, rfl⟩⟩,
    n_bool := PySem.W.mg_none_of X G n_bool,
    n_int := PySem.W.mg_none_of X G n_int,
    n_isinstance := PySem.W.mg_none_of X G n_isinstance,
    n_len := PySem.W.mg_none_of X G n_len,
    n_list := PySem.W.mg_none_of X G n_list,
    n_max := PySem.W.mg_none_of X G n_max,
    n_min := PySem.W.mg_none_of X G n_min,
    n_range := PySem.W.mg_none_of X G n_range,
    n_reversed := PySem.W.mg_none_of X G n_reversed,
    n_str := PySem.W.mg_none_of X G n_str,
    n_tuple := PySem.W.mg_none_of X G n_tuple })⟩
end Vf
open PySem PySem.W PyProof.Rows
set_option maxHeartbeats 0 in
theorem PySem.Challenge.cw_hushedpages_k36_chains_found_holds : PySem.Challenge.rw_hushedpages_k36_chains_found.Holds := by
  w_on; o_law; k_head; (case hw => w_witness2)
  k_fill
  refine L2.walk_of (l := PySem.Challenge.rw_hushedpages_k36_chains_found) (n := 63) (k := 5) (x := "_law_script") (CX := fun _ => L2.CX0) (sp := fun w => Vf.spLaw _) rfl (by decide) rfl ⟨rfl, by decide, by decide⟩ (fun w h Y => PySem.W.kIn_of Y) ?F (fun _ _ a ns hl _ hS => ⟨a, ns, rfl, hS, hl, fun _ => rfl⟩) (fun _ _ _ _ _ h => h)
  case F =>
    intro w mg fa h KX G hmg
    refine' Vf.all_mk KX G hmg ?a_chain_of ?l_chain_of ?c_chain_of ?k_chain_of ?a_demands ?l_demands ?c_demands ?k_demands ?a_law_begin ?l_law_begin ?c_law_begin ?k_law_begin ?a_law_draw ?l_law_draw ?c_law_draw ?k_law_draw ?a_law_pick ?l_law_pick ?c_law_pick ?k_law_pick ?a_law_rare ?l_law_rare ?c_law_rare ?k_law_rare ?a_law_shuffled ?l_law_shuffled ?c_law_shuffled ?k_law_shuffled ?a_law_exact ?l_law_exact ?c_law_exact ?k_law_exact ?a_law_cells_drawn ?l_law_cells_drawn ?c_law_cells_drawn ?k_law_cells_drawn ?a_law_demand ?l_law_demand ?c_law_demand ?k_law_demand ?a_law_chains ?l_law_chains ?c_law_chains ?k_law_chains ?a_law_least_chain ?l_law_least_chain ?c_law_least_chain ?k_law_least_chain ?a_law_table_drawn ?l_law_table_drawn ?c_law_table_drawn ?k_law_table_drawn ?a_law ?l_law ?c_law ?k_law ?n_bool ?n_int ?n_isinstance ?n_len ?n_list ?n_max ?n_min ?n_range ?n_reversed ?n_str ?n_tuple
    (case a_chain_of => k_is)
    (case l_chain_of => k_is)
    (case c_chain_of => k_is)
    (case k_chain_of => k_is)
    (case a_demands => k_is)
    (case l_demands => k_is)
    (case c_demands => k_is)
    (case k_demands => k_is)
    (case a_law_begin => k_is)
    (case l_law_begin => k_is)
    (case c_law_begin => k_is)
    (case k_law_begin => k_is)
    (case a_law_draw => k_is)
    (case l_law_draw => k_is)
    (case c_law_draw => k_is)
    (case k_law_draw => k_is)
    (case a_law_pick => k_is)
    (case l_law_pick => k_is)
    (case c_law_pick => k_is)
    (case k_law_pick => k_is)
    (case a_law_rare => k_is)
    (case l_law_rare => k_is)
    (case c_law_rare => k_is)
    (case k_law_rare => k_is)
    (case a_law_shuffled => k_is)
    (case l_law_shuffled => k_is)
    (case c_law_shuffled => k_is)
    (case k_law_shuffled => k_is)
    (case a_law_exact => k_is)
    (case l_law_exact => k_is)
    (case c_law_exact => k_is)
    (case k_law_exact => k_is)
    (case a_law_cells_drawn => k_is)
    (case l_law_cells_drawn => k_is)
    (case c_law_cells_drawn => k_is)
    (case k_law_cells_drawn => k_is)
    (case a_law_demand => k_is)
    (case l_law_demand => k_is)
    (case c_law_demand => k_is)
    (case k_law_demand => k_is)
    (case a_law_chains => k_is)
    (case l_law_chains => k_is)
    (case c_law_chains => k_is)
    (case k_law_chains => k_is)
    (case a_law_least_chain => k_is)
    (case l_law_least_chain => k_is)
    (case c_law_least_chain => k_is)
    (case k_law_least_chain => k_is)
    (case a_law_table_drawn => k_is)
    (case l_law_table_drawn => k_is)
    (case c_law_table_drawn => k_is)
    (case k_law_table_drawn => k_is)
    (case a_law => k_is)
    (case l_law => k_is)
    (case c_law => k_is)
    (case k_law => k_is)
    (case n_bool => k_is)
    (case n_int => k_is)
    (case n_isinstance => k_is)
    (case n_len => k_is)
    (case n_list => k_is)
    (case n_max => k_is)
    (case n_min => k_is)
    (case n_range => k_is)
    (case n_reversed => k_is)
    (case n_str => k_is)
    (case n_tuple => k_is)
