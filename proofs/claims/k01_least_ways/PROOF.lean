import PyProof.Rows.All
import Wide.All
import OpenK.AllK
import Wide.FinOn
import HandS.ForMost
import HandS.IsInst
import HandS.Conv
import HandS.Evl
import PyProof.StrBlock2
import HandS.ExcInit
import HandS.ExcIs
import HandS.ExcField
import HandS.Wide
import HandS.Lambda
import HandS.Walk
import KE.DataMinMax
import KE.SortData
import PyProof.Claim2Refuses
import HandS.Style
import KE.BitLaws
import HandS.TupAny
import HandS.EndTab
import HandS.HeadHook4
import PySem.Challenge.RW_hushedpages_k01_least_ways
set_option Elab.async false
set_option linter.all false
set_option maxRecDepth 100000
set_option maxHeartbeats 4000000
namespace Vf
open PySem PySem.Spec PyProof.Rows L2
def topS (i : Nat) : Stmt := PySem.Challenge.pw_hushedpages_k01_least_ways.main.body.getD i (.Pass ⟨0, 0, 0, 0⟩)
abbrev s_least_way : Stmt := topS 1
theorem sc_least_way : FnScope ["net", "leading", "node"] ["net"] (defScope s_least_way) := ⟨rfl, rfl, rfl, by decide +kernel, rfl, by decide +kernel, by decide +kernel⟩
abbrev s_least_way_along : Stmt := topS 2
theorem sc_least_way_along : FnScope ["places", "leads", "bounds", "tails", "way"] ["places", "leads"] (defScope s_least_way_along) := ⟨rfl, rfl, rfl, by decide +kernel, rfl, by decide +kernel, by decide +kernel⟩
abbrev s_leading : Stmt := topS 3
theorem sc_leading : FnScope ["net", "many", "arcs", "leading", "tail", "head", "cost", "_"] ["net"] (defScope s_leading) := ⟨rfl, rfl, rfl, by decide +kernel, rfl, by decide +kernel, by decide +kernel⟩
abbrev s_bounds_and_tails : Stmt := topS 4
theorem sc_bounds_and_tails : FnScope ["places", "leads", "bounds", "tails", "tail", "head", "cost", "total"] ["places", "leads"] (defScope s_bounds_and_tails) := ⟨rfl, rfl, rfl, by decide +kernel, rfl, by decide +kernel, by decide +kernel⟩
abbrev s_law_begin : Stmt := topS 6
theorem sc_law_begin : FnScope ["_law_script"] ["_law_script"] (defScope s_law_begin) := ⟨rfl, rfl, rfl, by decide +kernel, rfl, by decide +kernel, by decide +kernel⟩
abbrev s_law_draw : Stmt := topS 7
theorem sc_law_draw : FnScope ["_law_d", "_law_many", "_law_cell", "_law_found"] ["_law_d", "_law_many"] (defScope s_law_draw) := ⟨rfl, rfl, rfl, by decide +kernel, rfl, by decide +kernel, by decide +kernel⟩
abbrev s_law_pick : Stmt := topS 8
theorem sc_law_pick : FnScope ["_law_d", "_law_row"] ["_law_d", "_law_row"] (defScope s_law_pick) := ⟨rfl, rfl, rfl, by decide +kernel, rfl, by decide +kernel, by decide +kernel⟩
abbrev s_law_rare : Stmt := topS 9
theorem sc_law_rare : FnScope ["_law_d", "_law_many"] ["_law_d", "_law_many"] (defScope s_law_rare) := ⟨rfl, rfl, rfl, by decide +kernel, rfl, by decide +kernel, by decide +kernel⟩
abbrev s_law_exact : Stmt := topS 10
theorem sc_law_exact : FnScope ["_law_told", "_law_due_here", "_law_k"] ["_law_told", "_law_due_here"] (defScope s_law_exact) := ⟨rfl, rfl, rfl, by decide +kernel, rfl, by decide +kernel, by decide +kernel⟩
abbrev s_law_net : Stmt := topS 11
theorem sc_law_net : FnScope ["_law_d", "_law_many", "_law_wide", "_law_most", "_law_arcs", "_law_tail", "_law_head"] ["_law_d"] (defScope s_law_net) := ⟨rfl, rfl, rfl, by decide +kernel, rfl, by decide +kernel, by decide +kernel⟩
abbrev s_law_all_ways : Stmt := topS 12
theorem sc_law_all_ways : FnScope ["_law_net_here", "_law_many", "_law_arcs", "_law_costs", "_law_tail", "_law_head", "_law_cost", "_law_found", "_law_mask", "_law_nodes", "_law_total", "_law_k"] ["_law_net_here"] (defScope s_law_all_ways) := ⟨rfl, rfl, rfl, by decide +kernel, rfl, by decide +kernel, by decide +kernel⟩
abbrev s_law_by_nodes : Stmt := topS 13
theorem sc_law_by_nodes : FnScope ["_law_net_here", "_law_best", "_law_head", "_law_rows", "_law_tail", "_law_end", "_law_cost"] ["_law_net_here"] (defScope s_law_by_nodes) := ⟨rfl, rfl, rfl, by decide +kernel, rfl, by decide +kernel, by decide +kernel⟩
abbrev s_law_due : Stmt := topS 14
theorem sc_law_due : FnScope ["_law_net_here", "_law_ways", "_law_best", "_law_nodes"] ["_law_net_here"] (defScope s_law_due) := ⟨rfl, rfl, rfl, by decide +kernel, rfl, by decide +kernel, by decide +kernel⟩
abbrev s_law : Stmt := topS 15
theorem sc_law : FnScope ["_law_script", "_law_d", "_law_nets", "_law_turn", "_law_net_here"] ["_law_script"] (defScope s_law) := ⟨rfl, rfl, rfl, by decide +kernel, rfl, by decide +kernel, by decide +kernel⟩
structure DefAt (K : PySem.W.Frag) (mg : Str → Option Value) (x : Str) (st : Stmt) (ps : List Str) (f : Addr) (fd : FuncData) : Prop where
  F : Fun K x x st f fd
  G : mg x = some (.ref f)
  B : Binds K fd ps []
  E : ∃ kV doc pm an cdv ct, fd = PySem.W.fnOf x x (defArgs st) (defBody st) (defScope st) .none kV doc pm an cdv ct
structure Txt (K : PySem.W.Frag) (mg : Str → Option Value) where
  a_least_way : Addr
  d_least_way : FuncData
  D_least_way : DefAt K mg "least_way" s_least_way ["net"] a_least_way d_least_way
  a_least_way_along : Addr
  d_least_way_along : FuncData
  D_least_way_along : DefAt K mg "least_way_along" s_least_way_along ["places", "leads"] a_least_way_along d_least_way_along
  a_leading : Addr
  d_leading : FuncData
  D_leading : DefAt K mg "_leading" s_leading ["net"] a_leading d_leading
  a_bounds_and_tails : Addr
  d_bounds_and_tails : FuncData
  D_bounds_and_tails : DefAt K mg "_bounds_and_tails" s_bounds_and_tails ["places", "leads"] a_bounds_and_tails d_bounds_and_tails
  a_law_begin : Addr
  d_law_begin : FuncData
  D_law_begin : DefAt K mg "_law_begin" s_law_begin ["_law_script"] a_law_begin d_law_begin
  a_law_draw : Addr
  d_law_draw : FuncData
  D_law_draw : DefAt K mg "_law_draw" s_law_draw ["_law_d", "_law_many"] a_law_draw d_law_draw
  a_law_pick : Addr
  d_law_pick : FuncData
  D_law_pick : DefAt K mg "_law_pick" s_law_pick ["_law_d", "_law_row"] a_law_pick d_law_pick
  a_law_rare : Addr
  d_law_rare : FuncData
  D_law_rare : DefAt K mg "_law_rare" s_law_rare ["_law_d", "_law_many"] a_law_rare d_law_rare
  a_law_exact : Addr
  d_law_exact : FuncData
  D_law_exact : DefAt K mg "_law_exact" s_law_exact ["_law_told", "_law_due_here"] a_law_exact d_law_exact
  a_law_net : Addr
  d_law_net : FuncData
  D_law_net : DefAt K mg "_law_net" s_law_net ["_law_d"] a_law_net d_law_net
  a_law_all_ways : Addr
  d_law_all_ways : FuncData
  D_law_all_ways : DefAt K mg "_law_all_ways" s_law_all_ways ["_law_net_here"] a_law_all_ways d_law_all_ways
  a_law_by_nodes : Addr
  d_law_by_nodes : FuncData
  D_law_by_nodes : DefAt K mg "_law_by_nodes" s_law_by_nodes ["_law_net_here"] a_law_by_nodes d_law_by_nodes
  a_law_due : Addr
  d_law_due : FuncData
  D_law_due : DefAt K mg "_law_due" s_law_due ["_law_net_here"] a_law_due d_law_due
  a_law : Addr
  d_law : FuncData
  D_law : DefAt K mg "law" s_law ["_law_script"] a_law d_law
  n_bool : mg "bool" = none
  n_int : mg "int" = none
  n_isinstance : mg "isinstance" = none
  n_len : mg "len" = none
  n_list : mg "list" = none
  n_min : mg "min" = none
  n_range : mg "range" = none
  n_str : mg "str" = none
  n_tuple : mg "tuple" = none
/-! ### the dice -/
/-- at d the dice, at l the script's copy -/
structure DI (d l : Addr) (H : Hp) : Prop where
  ne : l ≠ d
  sc : ∃ ns : List Int, H l = some (.lst (ns.map V.int))
  st : ∃ i b s c : Int, 0 ≤ i ∧ H d = some (.lst [.ref l, .int i, .int b, .int s, .int c])
/-- all but the dice stands -/
def Kp (d : Addr) (H H' : Hp) : Prop := ∀ b o, b ≠ d → H b = some o → H' b = some o
theorem Kp.refl (d : Addr) (H : Hp) : Kp d H H := fun _ _ _ h => h
theorem Kp.trans {d : Addr} {H H1 H2 : Hp} (a : Kp d H H1) (b : Kp d H1 H2) : Kp d H H2 := fun x o n h => b x o n (a x o n h)
theorem Kp.upd {d : Addr} {H H' : Hp} {o : HO} (a : Kp d H H') : Kp d H (upd H' d o) := fun x u n h => by
  rw [upd_ne n]; exact a x u n h
theorem Kp.new {d p : Addr} {H H' : Hp} {o : HO} (a : Kp d H H') (hp : H' p = none) : Kp d H (L2.upd H' p o) := fun x u n h => by
  have h2 := a x u n h
  rw [upd_ne (ne_of_none h2 hp)]; exact h2
theorem Kp.mut {d p : Addr} {H H' : Hp} {o : HO} (a : Kp d H H') (hp : H p = none) : Kp d H (L2.upd H' p o) := fun x u n h => by
  rw [upd_ne (ne_of_none h hp)]; exact a x u n h
theorem Kp.sq {K : PySem.W.Frag} {d a : Addr} {H H' : Hp} {xs : List V} (k : Kp d H H') (n : a ≠ d) (h : SqL K H a xs) : SqL K H' a xs := by
  rcases h with (h | ⟨o, h⟩) | h
  · exact .inl (.inl (k _ _ n h))
  · exact .inl (.inr ⟨o, k _ _ n h⟩)
  · exact .inr h
theorem DI.keep {d l : Addr} {H H' : Hp} (h : DI d l H) (e : ∀ b o, H b = some o → H' b = some o) : DI d l H' := by
  obtain ⟨n, ⟨ns, h1⟩, i, b, s, c, h0, h2⟩ := h
  exact ⟨n, ⟨ns, e _ _ h1⟩, i, b, s, c, h0, e _ _ h2⟩
theorem DI.at {d l p : Addr} {H : Hp} {o : HO} (h : DI d l H) (n1 : p ≠ d) (n2 : p ≠ l) : DI d l (upd H p o) := by
  obtain ⟨n, ⟨ns, h1⟩, i, b, s, c, h0, h2⟩ := h
  exact ⟨n, ⟨ns, by rw [upd_ne n2.symm]; exact h1⟩, i, b, s, c, h0, by rw [upd_ne n1.symm]; exact h2⟩
theorem DI.new {d l p : Addr} {H : Hp} {o : HO} (h : DI d l H) (hp : H p = none) : DI d l (upd H p o) :=
  h.keep fun b u e => by rw [upd_ne (ne_of_none e hp)]; exact e
theorem DI.nd {d l p : Addr} {H : Hp} (h : DI d l H) (hp : H p = none) : p ≠ d ∧ p ≠ l := by
  obtain ⟨n, ⟨ns, h1⟩, i, b, s, c, h0, h2⟩ := h
  exact ⟨fun e => (by rw [e, h2] at hp; cases hp), fun e => (by rw [e, h1] at hp; cases hp)⟩
theorem DI.set {d l : Addr} {H : Hp} {i b s c : Int} (h : DI d l H) (h0 : 0 ≤ i) : DI d l (upd H d (.lst [.ref l, .int i, .int b, .int s, .int c])) := by
  obtain ⟨n, ⟨ns, h1⟩, _⟩ := h
  exact ⟨n, ⟨ns, by rw [upd_ne n]; exact h1⟩, i, b, s, c, h0, upd_same⟩
section
variable {P : Program} {w : World} {K : PySem.W.Frag} {mg : Str → Option Value} {base : Heap}
/-! ### begin -/
def spBegin (K : PySem.W.Frag) : Sp := fun vs H Q _ => ∃ (a : Addr) (ns : List Int), vs = [.ref a] ∧ SqL K H a (ns.map V.int) ∧ ns.length ≤ 63 ∧
  ∀ H' d l, Same H H' → DI d l H' → Q (.ref d) H'
theorem ok_begin (T : Txt K mg) : FnOk P w K mg base CX0 1 T.a_law_begin T.d_law_begin ["_law_script"] (spBegin K) := by
  refine T.D_law_begin.F.ok sc_law_begin (fun vs H Q E h => ?_) (fun cdv A outer s H vs Q E hr h => ?_)
  · obtain ⟨a, ns, rfl, _⟩ := h
    rfl
  · obtain ⟨a, ns, rfl, hS, hl, q⟩ := h
    refine ⟨_, (pss_one (ps_ret (pe_lst (pa_cons (pe_callTy call_list_of (by rfl) T.n_list (by decide +kernel) (pa_cons (pv 0) pa_nil)) (pa_cons pe_int (pa_cons pe_int (pa_cons pe_int (pa_cons pe_int pa_nil)))))))), ?_⟩
    refine ⟨_, rfl, a, _, rfl, .inl hS, fun l nl => ?_⟩
    refine ⟨by show 5 ≤ sizeLine; decide, fun d nd => ?_⟩
    refine q _ d l (fun b o e => ?_) ?_
    · have n1 : b ≠ l := ne_of_none e nl
      have e1 : upd H l (.lst (ns.map V.int)) b = some o := by rw [upd_ne n1]; exact e
      rw [upd_ne (ne_of_none e1 nd)]
      exact e1
    · have e1 : upd H l (.lst (ns.map V.int)) l = some (.lst (ns.map V.int)) := upd_same
      have n1 : l ≠ d := ne_of_none e1 nd
      exact ⟨n1, ⟨ns, by rw [upd_ne n1]; exact e1⟩, 0, 0, 7, 0, by decide, upd_same⟩
/-! ### draw -/
def spDraw : Sp := fun vs H Q _ => ∃ (d l : Addr) (m : Int), vs = [.ref d, .int m] ∧ DI d l H ∧ m ≤ 1073741824 ∧
  ∀ H' r, Kp d H H' → DI d l H' → (m < 2 → r = 0) → (2 ≤ m → 0 ≤ r ∧ r < m) → Q (.int r) H'
theorem ok_draw (T : Txt K mg) : FnOk P w K mg base CX0 1 T.a_law_draw T.d_law_draw ["_law_d", "_law_many"] spDraw := by
  refine T.D_law_draw.F.ok sc_law_draw (fun vs H Q E h => ?_) (fun cdv A outer s H vs Q E hr h => ?_)
  · obtain ⟨d, l, m, rfl, _⟩ := h
    rfl
  · obtain ⟨d, l, m, rfl, hD, hm, q⟩ := h
    refine ⟨_, (pss_cons (ps_if (pt_cmpR op_lt (pv 1) pe_int (nomark _)) (pss_one (ps_ret pe_int)) pss_nil)
      (pss_cons (ps_set (i := 2) sc_law_draw.nd rfl (.inl rfl) (pe_op op_add (pe_op op_mul (pe_ix ix_list (pv 0) pe_int (fun _ _ => rfl)) pe_int) pe_int))
      (Evl.pss_cut (ps_if (PW.pt (pw_and (pt_cmpR op_eq (pe_ix ix_list (pv 0) pe_int (fun _ _ => rfl)) pe_int (nomark _)) (pw_and1 (pt_cmpR op_lt (pe_ix ix_list (pv 0) pe_int (fun _ _ => rfl)) (pe_callB call_len_seq (by rfl) T.n_len PySem.boot_len (pa_cons (pe_ix ix_list (pv 0) pe_int (fun _ _ => rfl)) pa_nil)) (nomark _))))) (pss_cons (ps_set (i := 2) sc_law_draw.nd rfl (.inl rfl) (pe_ix ix_list (pe_ix ix_list (pv 0) pe_int (fun _ _ => rfl)) (pe_ix ix_list (pv 0) pe_int (fun _ _ => rfl)) (fun _ _ => rfl)))
      (pss_cons (ps_asg (pe_op op_add (pe_ix ix_list (pv 0) pe_int (fun _ _ => rfl)) pe_int) (pg_sub (pv 0) pe_int set_list))
      (Evl.pss_cut (ps_if (pt_cmpR op_lt (pv 2) pe_int (nomark _)) (pss_one (ps_set (i := 2) sc_law_draw.nd rfl (.inl rfl) (pe_op op_sub pe_int (pe_op op_mul pe_int (pv 2))))) pss_nil)
      (pss_one (ps_if (pt_cmpR op_ge (pv 2) pe_int (nomark _)) (pss_cons (ps_set (i := 2) sc_law_draw.nd rfl (.inl rfl) (pe_op op_and (pv 2) (pe_op op_sub (pe_op op_shl pe_int pe_int) pe_int)))
      (pss_one (ps_asg (pv 2) (pg_sub (pv 0) pe_int set_list)))) pss_nil))))) pss_nil)
      (pss_cons (ps_if (pt_cmpR op_gt (pe_ix ix_list (pv 0) pe_int (fun _ _ => rfl)) pe_int (nomark _)) (pss_cons (ps_set (i := 3) sc_law_draw.nd rfl (.inl rfl) (pe_op op_modN (pe_callTy call_int1 (by rfl) T.n_int (by decide +kernel) (pa_cons (pe_ix ix_list (pv 0) pe_int (fun _ _ => rfl)) pa_nil)) (pv 1)))
      (pss_cons (ps_asg (pe_op op_fdivW (pe_ix ix_list (pv 0) pe_int (fun _ _ => rfl)) (pv 1)) (pg_sub (pv 0) pe_int set_list))
      (pss_one (ps_ret (pv 3))))) pss_nil)
      (pss_cons (ps_asg (pe_op op_add (pe_ix ix_list (pv 0) pe_int (fun _ _ => rfl)) pe_int) (pg_sub (pv 0) pe_int set_list))
      (pss_cons (ps_asg (pe_op op_modN (pe_callTy call_int1 (by rfl) T.n_int (by decide +kernel) (pa_cons (pe_op op_add (pe_op op_add (pe_op op_mul (pe_ix ix_list (pv 0) pe_int (fun _ _ => rfl)) pe_int) (pe_op op_mul (pv 2) pe_int)) (pe_op op_mul (pe_ix ix_list (pv 0) pe_int (fun _ _ => rfl)) pe_int)) pa_nil)) pe_int) (pg_sub (pv 0) pe_int set_list))
      (pss_one (ps_ret (pe_op op_modN (pe_callTy call_int1 (by rfl) T.n_int (by decide +kernel) (pa_cons (pe_op op_modN (pe_callTy call_int1 (by rfl) T.n_int (by decide +kernel) (pa_cons (pe_op op_add (pe_op op_add (pe_op op_mul (pe_ix ix_list (pv 0) pe_int (fun _ _ => rfl)) pe_int) (pe_op op_mul (pe_ix ix_list (pv 0) pe_int (fun _ _ => rfl)) pe_int)) pe_int) pa_nil)) pe_int) pa_nil)) (pv 1)))))))))), ?_⟩
    refine ⟨_, rfl, _, _, rfl, rfl, _, rfl, ite2 (fun e => ?_) (fun e => ?_)⟩
    · have e := of_decide_eq_true e
      exact q H 0 (Kp.refl d H) hD (fun _ => rfl) (fun z => by omega)
    have hm2 : 2 ≤ m := by
      have e2 : ¬ m < 2 := fun z => e (decide_eq_true z)
      omega
    have hmN : m ≠ 0 := by omega
    have hmA : m.natAbs < 2 ^ 31 := by omega
    have fm : ∀ z : Int, 0 ≤ z.fmod m ∧ z.fmod m < m := fun z => ⟨Int.fmod_nonneg_of_pos z (by omega), Int.fmod_lt_of_pos z (by omega)⟩
    obtain ⟨n, ⟨ns, h1⟩, i, b, s5, c, h0, h2⟩ := id hD
    -- cell = d[4] * 977 + 3
    refine ⟨_, rfl, _, _, _, _, rfl, rfl, SqL.of h2, rfl, _, _, rfl, rfl, .inr ⟨by decide, by decide⟩, _, _, rfl, rfl, ?_⟩
    refine ⟨fun σ' H' => ∃ (cell : Int) (x3 : Option V), σ' = [some (.ref d), some (.int m), some (.int cell), x3] ∧ Kp d H H' ∧ DI d l H', ?_, ?_⟩
    · -- the cell
      refine ⟨_, rfl, _, _, _, _, rfl, rfl, SqL.of h2, rfl, rfl, _, rfl, ite2 (fun e1 => ?_) (fun e1 => ?_)⟩
      · refine ⟨_, rfl, _, _, _, _, rfl, rfl, SqL.of h2, rfl, _, rfl, _, _, _, _, rfl, rfl, SqL.of h2, rfl, _, _, rfl, .inl (SqL.of h1), _, _, rfl, rfl, _, rfl, ite2 (fun e2 => ?_) (fun e2 => ?_)⟩
        · have e2 := of_decide_eq_true e2
          rw [List.length_map] at e2
          obtain ⟨j, rfl⟩ : ∃ j : Nat, i = (j : Int) := ⟨i.toNat, by omega⟩
          have hj : j < ns.length := by omega
          have gj : (ns.map V.int)[j]? = some (.int ns[j]) := by
            rw [List.getElem?_map, List.getElem?_eq_getElem hj]; rfl
          refine ⟨_, rfl, _, _, _, _, rfl, rfl, SqL.of h2, rfl, _, rfl, _, _, _, _, rfl, rfl, SqL.of h2, rfl, _, _, _, _, rfl, rfl, SqL.of h1, atI_nat gj, ?_⟩
          -- d[1] = d[1] + 1
          refine ⟨_, rfl, _, _, _, _, rfl, rfl, SqL.of h2, rfl, _, _, rfl, rfl, _, rfl, _, _, _, _, rfl, rfl, h2, rfl, ?_⟩
          have D1 := hD.set (i := (j : Int) + 1) (b := b) (s := s5) (c := c) (by omega)
          have K1 : Kp d H (upd H d (.lst [.ref l, .int ((j : Int) + 1), .int b, .int s5, .int c])) := (Kp.refl d H).upd
          refine ⟨fun σ' H' => ∃ (cell : Int) (x3 : Option V), σ' = [some (.ref d), some (.int m), some (.int cell), x3] ∧ H' = upd H d (.lst [.ref l, .int ((j : Int) + 1), .int b, .int s5, .int c]), ?_, ?_⟩
          · refine ⟨_, rfl, _, _, rfl, rfl, _, rfl, ite2 (fun _ => ?_) (fun _ => ?_)⟩
            · exact ⟨_, rfl, _, _, rfl, rfl, .inl ⟨by decide, by decide⟩, _, _, rfl, rfl, _, _, rfl, rfl⟩
            · exact ⟨_, _, rfl, rfl⟩
          · rintro σ' H' ⟨cell, x3, rfl, rfl⟩
            refine ⟨_, rfl, _, _, rfl, rfl, _, rfl, ite2 (fun _ => ?_) (fun _ => ?_)⟩
            · refine ⟨_, rfl, _, _, rfl, rfl, ⟨by decide, by decide, by decide⟩, _, _, rfl, rfl, _, _, rfl, rfl, ?_⟩
              refine ⟨_, rfl, _, rfl, _, _, _, _, rfl, rfl, upd_same, rfl, ?_⟩
              exact ⟨_, _, rfl, K1.upd, D1.set (by omega)⟩
            · exact ⟨_, _, rfl, K1, D1⟩
        · exact ⟨_, _, rfl, Kp.refl d H, hD⟩
      · exact ⟨_, _, rfl, Kp.refl d H, hD⟩
    · rintro σ' H1 ⟨cell, x3, rfl, K1, D1⟩
      obtain ⟨n, ⟨ns, h1⟩, i, b, s5, c, h0, h2⟩ := id D1
      refine ⟨_, rfl, _, _, _, _, rfl, rfl, SqL.of h2, rfl, _, _, rfl, rfl, _, rfl, ite2 (fun e1 => ?_) (fun e1 => ?_)⟩
      · refine ⟨_, rfl, _, _, _, _, rfl, rfl, SqL.of h2, rfl, .inl ⟨_, rfl, _, rfl, _, _, rfl, rfl, hmN, ?_⟩⟩
        refine ⟨_, rfl, _, _, _, _, rfl, rfl, SqL.of h2, rfl, _, rfl, _, _, rfl, rfl, wide_div (b := 31) (by omega) (by omega) (by decide) (by decide), _, rfl, _, _, _, _, rfl, rfl, h2, rfl, ?_⟩
        exact ⟨_, rfl, q _ _ K1.upd (D1.set h0) (fun z => by omega) (fun _ => fm _)⟩
      · refine ⟨_, rfl, _, _, _, _, rfl, rfl, SqL.of h2, rfl, _, _, rfl, rfl, _, rfl, _, _, _, _, rfl, rfl, h2, rfl, ?_⟩
        refine ⟨_, rfl, _, _, _, _, rfl, rfl, SqL.of upd_same, rfl, _, _, rfl, rfl, .inr ⟨by decide, by decide⟩, _, rfl, _, _, rfl, rfl, .inr ⟨by decide, by decide⟩, _, _, rfl, rfl, _, rfl, _, _, _, _, rfl, rfl, SqL.of upd_same, rfl, _, _, rfl, rfl, .inr ⟨by decide, by decide⟩, _, _, rfl, rfl, .inl ⟨_, rfl, _, _, rfl, rfl, (by show (2147483647 : Int) ≠ 0; decide), _, rfl, _, _, _, _, rfl, rfl, upd_same, rfl, ?_⟩⟩
        refine ⟨_, rfl, _, _, _, _, rfl, rfl, SqL.of upd_same, rfl, _, _, rfl, rfl, .inr ⟨by decide, by decide⟩, _, rfl, _, _, _, _, rfl, rfl, SqL.of upd_same, rfl, _, _, rfl, rfl, .inr ⟨by decide, by decide⟩, _, _, rfl, rfl, _, _, rfl, rfl, .inl ⟨_, rfl, _, _, rfl, rfl, (by show (2147483399 : Int) ≠ 0; decide), .inl ⟨_, rfl, _, rfl, _, _, rfl, rfl, hmN, ?_⟩⟩⟩
        exact q _ _ K1.upd.upd ((D1.set h0).set h0) (fun z => by omega) (fun _ => fm _)
end
end Vf

set_option Elab.async false
set_option linter.all false
set_option maxRecDepth 100000
set_option maxHeartbeats 4000000
namespace Vf
open PySem PySem.Spec PyProof.Rows L2 TL
/-! ### the mathematics of tokens -/
def sW : Str := "abcdefghijklmnopqrstuvwxyz0123456789.,:;!?'()+=<>*/"
def sL : Str := "abcdefghijklmnopqrstuvwxyz"
def sB : Str := " \n"
def sOdd : Str := "\"#$&-ABCDEFGHIJKLMNOPQRSTUVWXYZ[\\]^_`|~"
def cW (c : Nat) : Bool := decide (c ∈ sW.cps.toList)
def cL (c : Nat) : Bool := decide (c ∈ sL.cps.toList)
def cB (c : Nat) : Bool := decide (c ∈ sB.cps.toList)
/-- the text of these signs -/
def mkS (zs : List Nat) : Str := ⟨zs.toArray⟩
def sV (zs : List Nat) : V := .str (mkS zs)
theorem mkS_cps (zs : List Nat) : (mkS zs).cps.toList = zs := rfl
theorem mkS_of (z : Str) : mkS z.cps.toList = z := rfl
theorem mkS_len (zs : List Nat) : (mkS zs).length = zs.length := by simp [mkS, Str.length]
theorem len_cps (z : Str) : z.length = z.cps.toList.length := by simp [Str.length]
theorem mkS_app (a b : List Nat) : mkS a ++ mkS b = mkS (a ++ b) := by
  have h : (mkS a ++ mkS b).cps.toList = a ++ b := by rw [Str.cps_append, Array.toList_append]; rfl
  rw [← h]
  rfl
theorem mkS_inj {a b : List Nat} (h : mkS a = mkS b) : a = b := by
  have h2 := congrArg (fun z : Str => z.cps.toList) h
  exact h2
theorem sW_list : sW.cps.toList = [97,98,99,100,101,102,103,104,105,106,107,108,109,110,111,112,113,114,115,116,117,118,119,120,121,122,48,49,50,51,52,53,54,55,56,57,46,44,58,59,33,63,39,40,41,43,61,60,62,42,47] := by decide +kernel
theorem sL_list : sL.cps.toList = [97,98,99,100,101,102,103,104,105,106,107,108,109,110,111,112,113,114,115,116,117,118,119,120,121,122] := by decide +kernel
theorem sB_list : sB.cps.toList = [32, 10] := by decide +kernel
theorem cL_W {c : Nat} (h : cL c = true) : cW c = true := by
  have h1 := of_decide_eq_true h
  refine decide_eq_true ?_
  rw [sL_list] at h1
  rw [sW_list]
  rw [show ([97,98,99,100,101,102,103,104,105,106,107,108,109,110,111,112,113,114,115,116,117,118,119,120,121,122,48,49,50,51,52,53,54,55,56,57,46,44,58,59,33,63,39,40,41,43,61,60,62,42,47] : List Nat) = [97,98,99,100,101,102,103,104,105,106,107,108,109,110,111,112,113,114,115,116,117,118,119,120,121,122] ++ [48,49,50,51,52,53,54,55,56,57,46,44,58,59,33,63,39,40,41,43,61,60,62,42,47] from rfl]
  exact List.mem_append_left _ h1
theorem cW_B {c : Nat} (h : cW c = true) : cB c = false := by
  refine decide_eq_false fun h2 => ?_
  rw [sB_list] at h2
  have h1 := of_decide_eq_true h
  rw [sW_list] at h1
  simp only [List.mem_cons, List.not_mem_nil, or_false] at h2
  rcases h2 with rfl | rfl
  · exact absurd h1 (by decide)
  · exact absurd h1 (by decide)
theorem cW_at : cW 64 = false := by
  unfold cW
  rw [sW_list]
  decide
theorem cB_at : cB 64 = false := by
  unfold cB
  rw [sB_list]
  decide
theorem cW_ne {c : Nat} (h : cW c = true) : c ≠ 64 := fun e => by
  rw [e, cW_at] at h
  cases h
theorem drop_le {α : Type} (p : α → Bool) : ∀ l : List α, (l.dropWhile p).length ≤ l.length
  | [] => Nat.le_refl _
  | c :: r => by
    rw [List.dropWhile_cons]
    split
    · exact Nat.le_trans (drop_le p r) (Nat.le_succ _)
    · exact Nat.le_refl _
/-- the tokens of a text -/
def tokF : Nat → List Nat → List (List Nat)
  | 0, _ => []
  | _ + 1, [] => []
  | n + 1, c :: r =>
    if cB c then tokF n r else if c = 64 then (c :: r.takeWhile cL) :: tokF n (r.dropWhile cL)
    else if cW c then (c :: r.takeWhile cW) :: tokF n (r.dropWhile cW) else [c] :: tokF n r
theorem tokF_more : ∀ (n m : Nat) (zs : List Nat), zs.length ≤ n → zs.length ≤ m → tokF n zs = tokF m zs
  | 0, 0, _, _, _ => rfl
  | 0, m + 1, zs, h, _ => by
    have e : zs = [] := List.length_eq_zero_iff.mp (Nat.le_zero.mp h)
    subst e
    rfl
  | n + 1, 0, zs, _, h => by
    have e : zs = [] := List.length_eq_zero_iff.mp (Nat.le_zero.mp h)
    subst e
    rfl
  | n + 1, m + 1, [], _, _ => rfl
  | n + 1, m + 1, c :: r, h1, h2 => by
    have a1 : r.length ≤ n := Nat.le_of_succ_le_succ h1
    have a2 : r.length ≤ m := Nat.le_of_succ_le_succ h2
    have d1 := drop_le cL r
    have d2 := drop_le cW r
    show (if cB c then tokF n r else if c = 64 then (c :: r.takeWhile cL) :: tokF n (r.dropWhile cL) else if cW c then (c :: r.takeWhile cW) :: tokF n (r.dropWhile cW) else [c] :: tokF n r) =
      (if cB c then tokF m r else if c = 64 then (c :: r.takeWhile cL) :: tokF m (r.dropWhile cL) else if cW c then (c :: r.takeWhile cW) :: tokF m (r.dropWhile cW) else [c] :: tokF m r)
    rw [tokF_more n m r a1 a2, tokF_more n m _ (Nat.le_trans d1 a1) (Nat.le_trans d1 a2), tokF_more n m _ (Nat.le_trans d2 a1) (Nat.le_trans d2 a2)]
def tok (zs : List Nat) : List (List Nat) := tokF zs.length zs
theorem tok_nil : tok [] = [] := rfl
theorem tok_cons (c : Nat) (r : List Nat) : tok (c :: r) = if cB c then tok r else if c = 64 then (c :: r.takeWhile cL) :: tok (r.dropWhile cL)
    else if cW c then (c :: r.takeWhile cW) :: tok (r.dropWhile cW) else [c] :: tok r := by
  show (if cB c then tokF r.length r else if c = 64 then (c :: r.takeWhile cL) :: tokF r.length (r.dropWhile cL) else if cW c then (c :: r.takeWhile cW) :: tokF r.length (r.dropWhile cW) else [c] :: tokF r.length r) = _
  rw [tokF_more r.length (r.dropWhile cL).length (r.dropWhile cL) (drop_le _ _) (Nat.le_refl _), tokF_more r.length (r.dropWhile cW).length (r.dropWhile cW) (drop_le _ _) (Nat.le_refl _)]
  rfl
/-! #### what the law's own walk has found, and how it goes on -/
def cont : Nat → List (List Nat) → List Nat → List (List Nat)
  | 1, f, r => f.dropLast ++ ((f.getLast?.getD []) ++ r.takeWhile cW) :: tok (r.dropWhile cW)
  | 2, f, r => f.dropLast ++ ((f.getLast?.getD []) ++ r.takeWhile cL) :: tok (r.dropWhile cL)
  | _, f, r => f ++ tok r
theorem cont0 (f : List (List Nat)) (r : List Nat) : cont 0 f r = f ++ tok r := rfl
theorem cont1 (g : List (List Nat)) (t r : List Nat) : cont 1 (g ++ [t]) r = g ++ (t ++ r.takeWhile cW) :: tok (r.dropWhile cW) := by
  show (g ++ [t]).dropLast ++ (((g ++ [t]).getLast?.getD []) ++ r.takeWhile cW) :: tok (r.dropWhile cW) = _
  rw [List.dropLast_concat, List.getLast?_concat]; rfl
theorem cont2 (g : List (List Nat)) (t r : List Nat) : cont 2 (g ++ [t]) r = g ++ (t ++ r.takeWhile cL) :: tok (r.dropWhile cL) := by
  show (g ++ [t]).dropLast ++ (((g ++ [t]).getLast?.getD []) ++ r.takeWhile cL) :: tok (r.dropWhile cL) = _
  rw [List.dropLast_concat, List.getLast?_concat]; rfl
/-- a sign that goes on -/
theorem cont1_on {c : Nat} (h : cW c = true) (g : List (List Nat)) (t r : List Nat) : cont 1 (g ++ [t]) (c :: r) = cont 1 (g ++ [t ++ [c]]) r := by
  rw [cont1, cont1, List.takeWhile_cons_of_pos h, List.dropWhile_cons_of_pos h, List.append_assoc]; rfl
theorem cont2_on {c : Nat} (h : cL c = true) (g : List (List Nat)) (t r : List Nat) : cont 2 (g ++ [t]) (c :: r) = cont 2 (g ++ [t ++ [c]]) r := by
  rw [cont2, cont2, List.takeWhile_cons_of_pos h, List.dropWhile_cons_of_pos h, List.append_assoc]; rfl
/-- a sign that doesn't -/
theorem cont1_off {c : Nat} (h : cW c = false) (g : List (List Nat)) (t r : List Nat) : cont 1 (g ++ [t]) (c :: r) = cont 0 (g ++ [t]) (c :: r) := by
  rw [cont1, cont0, List.takeWhile_cons_of_neg (by rw [h]; decide), List.dropWhile_cons_of_neg (by rw [h]; decide), List.append_nil, List.append_assoc]; rfl
theorem cont2_off {c : Nat} (h : cL c = false) (g : List (List Nat)) (t r : List Nat) : cont 2 (g ++ [t]) (c :: r) = cont 0 (g ++ [t]) (c :: r) := by
  rw [cont2, cont0, List.takeWhile_cons_of_neg (by rw [h]; decide), List.dropWhile_cons_of_neg (by rw [h]; decide), List.append_nil, List.append_assoc]; rfl
theorem cont_blank {c : Nat} (h : cB c = true) (f : List (List Nat)) (r : List Nat) : cont 0 f (c :: r) = cont 0 f r := by
  rw [cont0, cont0, tok_cons, if_pos h]
theorem cont_at (f : List (List Nat)) (r : List Nat) : cont 0 f (64 :: r) = cont 2 (f ++ [[64]]) r := by
  rw [cont0, cont2, tok_cons, if_neg (by rw [cB_at]; decide), if_pos rfl]; rfl
theorem cont_word {c : Nat} (h : cW c = true) (f : List (List Nat)) (r : List Nat) : cont 0 f (c :: r) = cont 1 (f ++ [[c]]) r := by
  rw [cont0, cont1, tok_cons, if_neg (by rw [cW_B h]; decide), if_neg (cW_ne h), if_pos h]; rfl
theorem cont_odd {c : Nat} (hb : cB c = false) (h : cW c = false) (ha : c ≠ 64) (f : List (List Nat)) (r : List Nat) : cont 0 f (c :: r) = cont 0 (f ++ [[c]]) r := by
  rw [cont0, cont0, tok_cons, if_neg (by rw [hb]; decide), if_neg ha, if_neg (by rw [h]; decide), List.append_assoc]; rfl
theorem cont_end1 (g : List (List Nat)) (t : List Nat) : cont 1 (g ++ [t]) [] = g ++ [t] := by
  rw [cont1]; show g ++ [t ++ []] = _; rw [List.append_nil]
theorem cont_end2 (g : List (List Nat)) (t : List Nat) : cont 2 (g ++ [t]) [] = g ++ [t] := by
  rw [cont2]; show g ++ [t ++ []] = _; rw [List.append_nil]
theorem cont_end0 (f : List (List Nat)) : cont 0 f [] = f := by
  rw [cont0, tok_nil, List.append_nil]
/-! #### tokens put together -/
/-- blanks and line feeds alone -/
def Bl (g : List Nat) : Prop := ∀ c ∈ g, cB c = true
/-- a token -/
def Tk (t : List Nat) : Prop := (∃ c, t = [c] ∧ cB c = false ∧ cW c = false ∧ c ≠ 64) ∨ (∃ r, t = 64 :: r ∧ ∀ c ∈ r, cL c = true) ∨ (t ≠ [] ∧ ∀ c ∈ t, cW c = true)
/-- the one runs on into the other -/
def runs (t u : List Nat) : Bool := if t.headD 0 = 64 then cL (u.headD 0) else cW (t.headD 0) && cW (u.headD 0)
theorem tok_gap : ∀ (g r : List Nat), Bl g → tok (g ++ r) = tok r
  | [], _, _ => rfl
  | c :: g, r, h => by
    rw [List.cons_append, tok_cons, if_pos (h c List.mem_cons_self)]
    exact tok_gap g r fun z hz => h z (List.mem_cons_of_mem _ hz)
theorem take_all {p : Nat → Bool} : ∀ (t r : List Nat), (∀ c ∈ t, p c = true) → (∀ c r', r = c :: r' → p c = false) → (t ++ r).takeWhile p = t ∧ (t ++ r).dropWhile p = r
  | [], [], _, _ => ⟨rfl, rfl⟩
  | [], c :: r, _, h => by
    have e := h c r rfl
    rw [List.nil_append, List.takeWhile_cons_of_neg (by rw [e]; decide), List.dropWhile_cons_of_neg (by rw [e]; decide)]
    exact ⟨rfl, rfl⟩
  | c :: t, r, ht, h => by
    have ⟨a, b⟩ := take_all t r (fun z hz => ht z (List.mem_cons_of_mem _ hz)) h
    rw [List.cons_append, List.takeWhile_cons_of_pos (ht c List.mem_cons_self), List.dropWhile_cons_of_pos (ht c List.mem_cons_self), a, b]
    exact ⟨rfl, rfl⟩
theorem tok_tok {t r : List Nat} (h : Tk t) (hr : r = [] ∨ runs t r = false) : tok (t ++ r) = t :: tok r := by
  rcases h with ⟨c, rfl, hb, hw, ha⟩ | ⟨u, rfl, hu⟩ | ⟨hn, hw⟩
  · show tok (c :: r) = _
    rw [tok_cons, if_neg (by rw [hb]; decide), if_neg ha, if_neg (by rw [hw]; decide)]
  · have hs : ∀ c r', r = c :: r' → cL c = false := by
      intro c r' e
      rcases hr with z | z
      · rw [z] at e; cases e
      · subst e; exact z
    have ⟨a, b⟩ := take_all u r hu hs
    rw [List.cons_append, tok_cons, if_neg (by rw [cB_at]; decide), if_pos rfl, a, b]
  · cases t with
    | nil => exact absurd rfl hn
    | cons c u =>
      have hc := hw c List.mem_cons_self
      have hs : ∀ x r', r = x :: r' → cW x = false := by
        intro x r' e
        rcases hr with z | z
        · rw [z] at e; cases e
        · subst e
          unfold runs at z
          rw [show (c :: u).headD 0 = c from rfl, if_neg (cW_ne hc), hc] at z
          exact z
      have ⟨a, b⟩ := take_all u r (fun z hz => hw z (List.mem_cons_of_mem _ hz)) hs
      rw [List.cons_append, tok_cons, if_neg (by rw [cW_B hc]; decide), if_neg (cW_ne hc), if_pos hc, a, b]
/-- tokens and the gaps behind them, put into one row -/
def mixed : List (List Nat) → List (List Nat) → List Nat
  | t :: ts, g :: gs => t ++ (g ++ mixed ts gs)
  | _, _ => []
/-- what is asked of a gap behind token k -/
def need (ts : List (List Nat)) (k : Nat) : Bool := match ts[k]?, ts[k + 1]? with
  | some t, some u => runs t u
  | _, _ => false
theorem runs_bl {t g r : List Nat} (hn : g ≠ []) (hg : Bl g) : runs t (g ++ r) = false := by
  cases g with
  | nil => exact absurd rfl hn
  | cons c g =>
    have hb := hg c List.mem_cons_self
    have hw : cW c = false := by
      cases e : cW c with
      | false => rfl
      | true => rw [cW_B e] at hb; cases hb
    have hl : cL c = false := by
      cases e : cL c with
      | false => rfl
      | true => rw [cL_W e] at hw; cases hw
    unfold runs
    rw [List.cons_append]
    show (if t.headD 0 = 64 then cL c else cW (t.headD 0) && cW c) = false
    rw [hl, hw, Bool.and_false]
    split <;> rfl
theorem runs_head {t u r : List Nat} (hu : u ≠ []) : runs t (u ++ r) = runs t u := by
  cases u with
  | nil => exact absurd rfl hu
  | cons c u => rfl
theorem Tk.ne {t : List Nat} (h : Tk t) : t ≠ [] := by
  rcases h with ⟨c, rfl, _⟩ | ⟨r, rfl, _⟩ | ⟨h, _⟩
  · exact fun e => by cases e
  · exact fun e => by cases e
  · exact h
theorem tok_mixed : ∀ (ts gs : List (List Nat)), (∀ t ∈ ts, Tk t) → gs.length = ts.length → (∀ k g, gs[k]? = some g → Bl g ∧ (need ts k = true → g ≠ [])) → tok (mixed ts gs) = ts
  | [], [], _, _, _ => rfl
  | [], _ :: _, _, h, _ => by cases h
  | _ :: _, [], _, h, _ => by cases h
  | t :: ts, g :: gs, ht, hl, hg => by
    have ih := tok_mixed ts gs (fun u hu => ht u (List.mem_cons_of_mem _ hu)) (Nat.succ.inj hl) (fun k g' e => by
      have := hg (k + 1) g' e
      exact this)
    obtain ⟨hb, hne⟩ := hg 0 g rfl
    show tok (t ++ (g ++ mixed ts gs)) = t :: ts
    rw [tok_tok (ht t List.mem_cons_self), tok_gap g _ hb, ih]
    by_cases e : g = []
    · subst e
      rw [List.nil_append]
      cases ts with
      | nil => exact .inl (by cases gs <;> rfl)
      | cons u us =>
        cases gs with
        | nil => cases hl
        | cons g2 gs2 =>
          refine .inr ?_
          show runs t (u ++ (g2 ++ mixed us gs2)) = false
          rw [runs_head (ht u (List.mem_cons_of_mem _ List.mem_cons_self)).ne]
          cases q : runs t u with
          | false => rfl
          | true => exact absurd rfl (hne q)
    · exact .inr (runs_bl e hb)
/-! #### small things -/
theorem take_succ' {α : Type} {l : List α} {i : Nat} {x : α} (h : l[i]? = some x) : l.take (i + 1) = l.take i ++ [x] := by
  rw [List.take_add_one, h]; rfl
theorem big_ok {n : Nat} (h : n ≤ 100000) : n ≤ sizeLine := Nat.le_trans h (by decide)
theorem get_sV {ts : List (List Nat)} {i : Nat} {t : List Nat} (h : ts[i]? = some t) : (ts.map sV)[i]? = some (sV t) := by
  rw [List.getElem?_map, h]; rfl
theorem drop_at {zs : List Nat} {i c : Nat} (h : zs[i]? = some c) : zs.drop i = c :: zs.drop (i + 1) := by
  have ⟨h1, h2⟩ := List.getElem?_eq_some_iff.mp h
  rw [List.drop_eq_getElem_cons h1, h2]
theorem same_mut {H H' : Hp} {p : Addr} {o : HO} (a : Same H H') (hp : H p = none) : Same H (upd H' p o) := fun x u h => by
  rw [upd_ne (ne_of_none h hp)]; exact a x u h
theorem same_upd {H H' : Hp} {p : Addr} {o : HO} (a : Same H H') (hp : H' p = none) : Same H (upd H' p o) := fun x u h => by
  have h2 := a x u h
  rw [upd_ne (ne_of_none h2 hp)]; exact h2
theorem dec_sign (c : Nat) (z : Str) (e : Nat) (hz : z = mkS [e]) : decide (V.str ⟨#[c]⟩ = V.str z) = decide (c = e) := by
  rw [hz]
  by_cases h : c = e
  · subst h; rw [decide_eq_true rfl]; exact decide_eq_true rfl
  · rw [decide_eq_false h]
    refine decide_eq_false fun q => h ?_
    have e2 : mkS [c] = mkS [e] := V.str.inj q
    have e3 := mkS_inj e2
    injection e3
theorem tf (b : Bool) : b = true ∨ b = false := by cases b <;> simp
theorem bl_of {p : Prop} [Decidable p] {b : Bool} (h : decide p = b) : V.bl (decide p) = V.bl b := congrArg V.bl h
theorem at_mk : (("@" : Str)) = mkS [64] := by decide +kernel
/-! ### texts put together -/
theorem empty_mk : (("" : Str)) = mkS [] := by decide +kernel
theorem map_sV (zss : List (List Nat)) : zss.map sV = (zss.map mkS).map V.str := by
  rw [List.map_map]; rfl
theorem sum_len : ∀ zss : List (List Nat), ((zss.map mkS).map (·.length)).sum = zss.flatten.length
  | [] => rfl
  | z :: r => by
    rw [List.map_cons, List.map_cons, List.sum_cons, sum_len r, List.flatten_cons, List.length_append, mkS_len]
theorem joinL_nil : ∀ zss : List (List Nat), joinL [] zss = zss.flatten
  | [] => rfl
  | [z] => by show z = z ++ []; rw [List.append_nil]
  | z :: y :: r => by
    show z ++ ([] ++ joinL [] (y :: r)) = z ++ (y :: r).flatten
    rw [List.nil_append, joinL_nil (y :: r)]
theorem join_mk (zss : List (List Nat)) : Txt.join ("" : Str) (zss.map mkS) = mkS zss.flatten := by
  have h : tl (Txt.join ("" : Str) (zss.map mkS)) = zss.flatten := by
    rw [join_eq, tl_join, show (zss.map mkS).map tl = zss from (by rw [List.map_map]; exact List.map_id'' (fun _ => rfl) zss), empty_mk]
    exact joinL_nil zss
  rw [← h]; rfl
theorem flat_len {B : Nat} : ∀ {zss : List (List Nat)}, (∀ z ∈ zss, z.length ≤ B) → zss.flatten.length ≤ zss.length * B
  | [], _ => Nat.zero_le _
  | z :: r, h => by
    have ih := flat_len (zss := r) fun y hy => h y (List.mem_cons_of_mem _ hy)
    have hz := h z List.mem_cons_self
    rw [List.flatten_cons, List.length_append, List.length_cons, Nat.succ_mul]
    omega
theorem flat_one : ∀ {zss : List (List Nat)}, (∀ z ∈ zss, z.length = 1) → zss.flatten.length = zss.length
  | [], _ => rfl
  | z :: r, h => by
    rw [List.flatten_cons, List.length_append, List.length_cons, flat_one fun y hy => h y (List.mem_cons_of_mem _ hy), h z List.mem_cons_self]
    omega
theorem blank_mk : ((" " : Str)) = mkS [32] := by decide +kernel
theorem feed_mk : (("\n" : Str)) = mkS [10] := by decide +kernel
end Vf

set_option Elab.async false
set_option linter.all false
set_option maxRecDepth 100000
set_option maxHeartbeats 4000000
namespace Vf
open PySem PySem.Spec PyProof.Rows L2 TL LamX
/-! ### a lambda with one parameter -/
/-- one local, the parameter p, at the maker's slot ip; all else captured or global -/
structure LamP (sc scope : Scope) (N : List Str) (p : Str) (ip : Nat) : Prop where
  kind : scope.kind = .function
  co : scope.isCoroutine = false
  gen : scope.isGenerator = false
  nocell : ∀ y ∈ scope.names, y.2 ≠ .cell
  loc : ∀ y ∈ scope.names, y.2 = .local → y.1 = p
  par : scope.names.lookup p = some .local
  free : ∀ y ∈ scope.names, y.2 = .free → sc.names.lookup y.1 = some .cell ∨ sc.names.lookup y.1 = some .free
  nd : N.Nodup
  at_ : N[ip]? = some p
theorem LamP.has {X : Cx} {scope : Scope} {N : List Str} {p : Str} {ip : Nat} (L : LamP X.env.scope scope N p ip) (ok : X.Ok) : ∀ y ∈ scope.names, y.2 = .free → ∃ c, X.env.cells.lookup y.1 = some c := fun y hy e =>
  (L.free y hy e).elim (fun k => ok.has _ (.inl k)) (fun k => ok.has _ (.inr k))
def lamPB (sc scope : Scope) (N : List Str) (p : Str) (ip : Nat) : Bool :=
  decide (scope.kind = .function) && (!scope.isCoroutine && (!scope.isGenerator && (decide (scope.names.lookup p = some .local) && (decide (N[ip]? = some p) && (decide N.Nodup &&
    scope.names.all fun y => !decide (y.2 = .cell) && ((!decide (y.2 = .local) || decide (y.1 = p)) && (!decide (y.2 = .free) || (decide (sc.names.lookup y.1 = some .cell) || decide (sc.names.lookup y.1 = some .free)))))))))
theorem lamP_by {sc scope : Scope} {N : List Str} {p : Str} {ip : Nat} (h : lamPB sc scope N p ip = true) : LamP sc scope N p ip := by
  unfold lamPB at h
  simp only [Bool.and_eq_true, Bool.or_eq_true, Bool.not_eq_true', decide_eq_true_eq, decide_eq_false_iff_not, List.all_eq_true] at h
  obtain ⟨h1, h2, h3, h4, h5, h6, h7⟩ := h
  exact { kind := h1, co := h2, gen := h3, nocell := fun y hy => (h7 y hy).1, loc := fun y hy e => (h7 y hy).2.1.resolve_left (fun z => z e), par := h4,
          free := fun y hy e => (h7 y hy).2.2.resolve_left (fun z => z e), nd := h6, at_ := h5 }
section
variable {X : Cx} {pins : List (Addr × Obj)} {σ : L2.St} {H HZ : Hp} {s s1 : Shared}
/-- the body's start: the parameter's slot holds the argument -/
theorem lam_startP {A : Around} {outer : List Env} {E : XK} {scope : Scope} {f c' : Addr} {h₁ : Heap} {tk : Nat} {p : Str} {ip : Nat} {v : V} {u : Value} (I : Inv X pins σ H s) (L : LamP X.env.scope scope X.N p ip) (ru : RelV v u) (e0 : Env0 X.prog X.w X.K X.mg X.base A outer s1 HZ) (hd : A.handled = none)
    {fs : List Addr} (un : Un fs [] H HZ s.heap s1.heap) (hns : h₁.Ns s1.heap.objs.size fun y => ([(p, u)] : List (Str × Value)).reverse.lookup y) (kp : ∀ b o, s1.heap.get? b = some o → h₁.get? b = some o) :
    Inv (lamCx X A outer s1 HZ E scope f c') [] (σ.set ip (some v)) HZ { s1 with heap := h₁, toks := tk } := by
  have hfree := L.has I.ok
  have up : ∀ {y c}, (cloFrom X.env.cells scope.names []).lookup y = some c → X.env.cells.lookup y = some c := fun {y c} e => by
    rcases cloFrom_mem (PySem.mem_of_lookup e) with hm | ⟨h1, h2⟩
    · cases hm
    · obtain ⟨c1, hc⟩ := hfree _ h1 rfl
      have hc : X.env.cells.lookup y = some c1 := hc
      have e2 : c = c1 := by rw [h2, hc]; rfl
      rw [e2]; exact hc
  have look : ∀ {y}, scope.names.lookup y = some .free → ∃ c, (cloFrom X.env.cells scope.names []).lookup y = some c := fun {y} hl =>
    mem_lookup (cloFrom_has (cells := X.env.cells) (acc := []) (show (y, NameKind.free) ∈ scope.names from PySem.mem_of_lookup hl))
  have cellK : ∀ {c : Addr} {v : Option Value}, H c = none → s.heap.IsCell c v → h₁.IsCell c v := fun {c v} n ⟨o, ho, hd⟩ => by
    obtain ⟨sl, q⟩ := un.any ho n (by simp)
    exact ⟨_, kp _ _ q, hd⟩
  have noA : ∀ b : Addr, b ∉ (lamCx X A outer s1 HZ E scope f c').ex := fun b z => absurd (show b ∈ ([] : List Addr) from z) (by simp)
  refine ⟨⟨e0.mod, L.kind, rfl, rfl, Nat.le_refl _, fun y z c e1 e2 => I.ok.inj y z c (up e1) (up e2), fun y hy => ?_, fun y c z _ => ?_, fun _ => hd, Around.frames_deeper e0.frames, .inr ⟨rfl, rfl⟩, fun b z => absurd z (noA b), e0.bs, e0.bsz, fun b _ _ => noA b,
      fun b z => absurd z (noA b), e0.funs, e0.frf⟩,
    rfl, e0.bare, Un.kept kp, ⟨_, hns, fun i y x e1 e2 e3 => ?_⟩, fun y c e => ?_, e0.hok.fresh (Nat.le_refl _), fun y c e => ?_, fun q hq => absurd (show q ∈ ([] : List (Addr × Obj)) ++ [] from hq) (by simp), e0.hok.kept kp, by rw [List.length_set]; exact I.len⟩
  · have hy : scope.names.lookup y = some .cell ∨ scope.names.lookup y = some .free := hy
    rcases hy with hy | hy
    · exact absurd rfl (L.nocell _ (PySem.mem_of_lookup hy))
    · exact look hy
  · cases (show false = true from z)
  · have e1 : X.N[i]? = some y := e1
    have e3 : Vis scope y := e3
    by_cases hi : i = ip
    · subst hi
      have ey : y = p := Option.some.inj (e1.symm.trans L.at_)
      subst ey
      rw [List.getElem?_set, if_pos rfl] at e2
      have ex : x = v := by
        split at e2
        · exact (Option.some.inj (Option.some.inj e2)).symm
        · cases e2
      subst ex
      exact ⟨u, ru, .inl ⟨L.par, by simp⟩⟩
    · have ny : y ≠ p := fun z => by
        subst z
        have l1 := (List.getElem?_eq_some_iff.mp e1)
        have l2 := (List.getElem?_eq_some_iff.mp L.at_)
        obtain ⟨a1, b1⟩ := l1
        obtain ⟨a2, b2⟩ := l2
        rcases Nat.lt_or_gt_of_ne hi with c | c
        · exact List.pairwise_iff_getElem.mp L.nd i ip a1 a2 c (b1.trans b2.symm)
        · exact List.pairwise_iff_getElem.mp L.nd ip i a2 a1 c (b2.trans b1.symm)
      rw [List.getElem?_set, if_neg (fun z => hi z.symm)] at e2
      rcases e3 with k | k | k
      · exact absurd (L.loc _ (PySem.mem_of_lookup k) rfl) ny
      · exact absurd rfl (L.nocell _ (PySem.mem_of_lookup k))
      · obtain ⟨m, hn, hl⟩ := I.loc
        have hvis : Vis X.env.scope y := (L.free _ (PySem.mem_of_lookup k) rfl).elim (fun k => .inr (.inl k)) (fun k => .inr (.inr k))
        obtain ⟨w', r, q⟩ := hl i y x e1 e2 hvis
        obtain ⟨c2, h2⟩ := look k
        refine ⟨w', r, .inr ⟨.inr k, c2, h2, ?_⟩⟩
        have c1 := up h2
        rcases q with ⟨k', _⟩ | ⟨_, c3, e', z⟩
        · have k' : X.env.scope.names.lookup y = some .local := k'
          rcases L.free _ (PySem.mem_of_lookup k) rfl with k2 | k2 <;> rw [show X.env.scope.names.lookup y = _ from k2] at k' <;> cases k'
        · rw [c1] at e'
          cases e'
          exact cellK (I.freeC y _ c1) z
  · obtain ⟨w', z⟩ := I.cell y c (up e)
    exact ⟨w', cellK (I.freeC y c (up e)) z⟩
  · obtain ⟨v, o, ho, hd⟩ := I.cell y c (up e)
    exact un.free c o ho (I.freeC y c (up e)) (by simp)
/-- the lambda at f, as it stands for the frames fs at s1, H1: called, it reads its body -/
structure Lives (P : Program) (w : World) (K : PySem.W.Frag) (mg : Str → Option Value) (base : Heap) (k : Nat) (f c' : Addr) (q : Str) (tl : V → Hp → VK → Prop) (fs : List Addr) (s1 : Shared) (H1 : Hp) : Prop where
  obj : ∃ (nm q' : Str) (pa : Arguments) (body : Expr) (sc : Scope) (cl : List (Str × Addr)) (pm ctv : Value), s1.heap.get? f = some (PySem.W.kla_obj nm q' pa body sc cl pm c' ctv)
  fn : H1 f = none
  fr : f ∉ fs
  act : ∀ (A' : Around) (outer' : List Env) (s' : Shared) (H' : Hp) (u : Value) (y : V) (Q : VK), Room (k + 1) A' → Env0 P w K mg base A' outer' s' H' → (∀ b ∈ fs, b ∈ frs outer') → f ∉ frs outer' → Un (frs outer') [] H1 H' s1.heap s'.heap → RelV y u → H' c' = some (CodeO c' q) → tl y H' Q →
    codeAny (model P w) A' (.call (.ref f) ⟨[u], []⟩) (CR (L2.CX P w) outer' P w H' s' Q C8.E0) s'
theorem Lives.step {P : Program} {w : World} {K : PySem.W.Frag} {mg : Str → Option Value} {base : Heap} {k : Nat} {f c' : Addr} {q : Str} {tl : V → Hp → VK → Prop} {fs fs2 : List Addr} {s1 s2 : Shared} {H1 H2 : Hp} (L : Lives P w K mg base k f c' q tl fs s1 H1) (sub : ∀ b ∈ fs, b ∈ fs2) (nf : f ∉ fs2) (un : Un fs2 [] H1 H2 s1.heap s2.heap) :
    Lives P w K mg base k f c' q tl fs2 s2 H2 := by
  obtain ⟨nm, q', pa, body, sc, cl, pm, ctv, ho⟩ := L.obj
  refine ⟨⟨nm, q', pa, body, sc, cl, pm, ctv, un.keep f _ ho L.fn nf (by simp)⟩, un.free f _ ho L.fn (by simp), nf, fun A' outer' s' H' u y Q hr e0 hs hn un2 rv hc ht => ?_⟩
  exact L.act A' outer' s' H' u y Q hr e0 (fun b hb => hs b (sub b hb)) hn ((un.mono hs (fun _ h => h)).trans un2) rv hc ht
theorem Lives.imp {P : Program} {w : World} {K : PySem.W.Frag} {mg : Str → Option Value} {base : Heap} {k : Nat} {f c' : Addr} {q : Str} {tl tl' : V → Hp → VK → Prop} {fs : List Addr} {s1 : Shared} {H1 : Hp} (L : Lives P w K mg base k f c' q tl fs s1 H1) (h : ∀ y H Q, tl' y H Q → tl y H Q) :
    Lives P w K mg base k f c' q tl' fs s1 H1 := ⟨L.obj, L.fn, L.fr, fun A' outer' s' H' u y Q hr e0 hs hn un rv hc ht => L.act A' outer' s' H' u y Q hr e0 hs hn un rv hc (h _ _ _ ht)⟩
/-- just made, in X -/
theorem lam_lives {scope : Scope} {f c' : Addr} {pm ctv : Value} {params : Arguments} {body : Expr} {k ip : Nat} {p : Str} {tb : TE} (I : Inv X pins σ H s) (L : LamP X.env.scope scope X.N p ip) (hf : s.heap.get? f = some (PySem.W.kla_obj "<lambda>" (X.env.qual ++ "<lambda>") params body scope (cloFrom X.env.cells scope.names []) pm c' ctv)) (hfn : H f = none) (hfr : f ∉ frs X.stack)
    (hbind : ∀ u : Value, bindArgs (PySem.W.kla_fn "<lambda>" (X.env.qual ++ "<lambda>") params body scope (cloFrom X.env.cells scope.names []) pm (.ref c') ctv) ⟨[u], []⟩ = pure [(p, u)])
    (hbody : ∀ (A : Around) (outer : List Env) (s : Shared) (H : Hp), Room k (A.deeper (lamEnv X scope s.heap.objs.size f c')) → PE (lamCx X A outer s H C8.E0 scope f c') body tb) :
    Lives X.prog X.w X.K X.mg X.base k f c' (X.env.qual ++ "<lambda>") (fun y H' Q' => tb (σ.set ip (some y)) H' Q') (frs X.stack) s H := by
  refine ⟨⟨_, _, _, _, _, _, _, _, hf⟩, hfn, hfr, fun A' outer' s2 H2 u x Q hr e0 _ hn un ru hc q => ?_⟩
  have of2 := un.keep f _ hf hfn hn (by simp)
  obtain ⟨⟨oc, ws, t, hoc, hdc, hvc⟩, _, _⟩ := e0.hok c' _ hc
  refine PySem.W.kla_callFunE hr.depth of2 rfl L.co L.gen rfl ⟨c', oc, ws, t, rfl, hoc, hdc, hvc⟩ ?_
  rw [hbind]
  have lim : s2.heap.NoLimit := e0.mod.nolimit.keeps fun b o e => (e0.bs b o e).1
  refine wpAny_pure (wpAny_newFunctionEnv (fun y hy => L.nocell y hy) (fun y hy => by rw [List.mem_singleton.mp hy]; exact L.par) (fun h₁ hns hsb => ⟨lim.fresh _ hsb, ?_⟩) L.kind)
  show codeAny _ _ (.expr body (lamEnv X scope s2.heap.objs.size f c')) _ _
  have kp : ∀ b o, s2.heap.get? b = some o → h₁.get? b = some o := fun b o e => hsb.extBut b o (Nat.ne_of_lt (Heap.lt_size e)) (Heap.get?_push_of_some _ e)
  have J : Inv (lamCx X A' outer' s2 H2 C8.E0 scope f c') [] (σ.set ip (some x)) H2 { s2 with heap := h₁, toks := s2.toks + ([(p, u)] : List (Str × Value)).length } :=
    lam_startP I L ru e0 hr.hd un hns kp
  refine PySem.W.kla_codeExpr (wpAny_mono ((hbody _ _ s2 H2 (hr.deeper _)).run [] _ _ H2 Q J q) (fun v s' hq => ?_) fun e s' hq => hq)
  obtain ⟨w', H', J', rv, q⟩ := hq
  exact ⟨w', H', J'.os, J'.bare, J'.base, J'.hok, rv, q⟩
end
/-- in a def's context, entered where the lambda lives -/
theorem Lives.at {CXg : CXT} {Eg : XK} {P : Program} {w : World} {K : PySem.W.Frag} {mg : Str → Option Value} {base : Heap} {Ng : List Str} {qg : Str} {sg : Scope} {g : Addr} {cdg : Value} {A : Around} {outer : List Env} {s sZ : Shared} {H HZ : Hp} {pn : List (Addr × Obj)} {xe : Value → Shared → Prop} {pinsZ : List (Addr × Obj)} {σZ : L2.St} {k : Nat} {f c' : Addr} {q : Str} {tl : V → Hp → VK → Prop}
    (L : Lives P w K mg base k f c' q tl (frs outer) s H) (I : Inv ((cxOf CXg P w K mg base Ng qg sg g cdg A outer s H Eg).tr pn xe) pinsZ σZ HZ sZ) :
    Lives P w K mg base k f c' q tl (frs (envOfC qg sg s.heap.objs.size g cdg :: outer)) sZ HZ := by
  have sub : ∀ b ∈ frs outer, b ∈ frs (envOfC qg sg s.heap.objs.size g cdg :: outer) := fun b hb => by
    unfold frs at hb ⊢
    obtain ⟨e, he, h2⟩ := List.mem_filterMap.mp hb
    exact List.mem_filterMap.mpr ⟨e, List.mem_cons_of_mem _ he, h2⟩
  have nf : f ∉ frs (envOfC qg sg s.heap.objs.size g cdg :: outer) := fun hb => by
    rcases List.mem_cons.mp (I.stkSub f hb) with e | e
    · obtain ⟨nm, q', pa, body, sc, cl, pm, ctv, ho⟩ := L.obj
      have h1 := Heap.lt_size ho
      have e : f = s.heap.objs.size := e
      rw [e] at h1
      exact Nat.lt_irrefl _ h1
    · exact L.fr e
  exact L.step sub nf (Un.mono (show Un (frs outer) [] H HZ s.heap sZ.heap from I.base) sub (fun _ h => h))
def tActS (i : Nat) (f c' : Addr) (q : Str) (tl : V → Hp → VK → Prop) (ta : TA) : TE := fun σ H Q => σ[i]? = some (some (.ref f)) ∧ ta σ H fun xs H1 => ∃ x, xs = [x] ∧ H1 c' = some (CodeO c' q) ∧ tl x H1 Q
/-- a(e), in the def that got the lambda -/
theorem pe_actS {CXg : CXT} {Eg : XK} {P : Program} {w : World} {K : PySem.W.Frag} {mg : Str → Option Value} {base : Heap} {Ng : List Str} {qg : Str} {sg : Scope} {g f c' : Addr} {cdg : Value} {A : Around} {outer : List Env} {s : Shared} {H : Hp} {k i : Nat} {a q : Str} {pn : List (Addr × Obj)} {xe : Value → Shared → Prop} {tl : V → Hp → VK → Prop} {ta : TA} {e : Expr} {p1 p2 : Pos}
    (Lv : Lives P w K mg base k f c' q tl (frs outer) s H) (hr : Room (k + 1) (A.deeper (envOfC qg sg s.heap.objs.size g cdg)))
    (hN : Ng[i]? = some a) (hv : Vis sg a) (ha : PA ((cxOf CXg P w K mg base Ng qg sg g cdg A outer s H Eg).tr pn xe) [e] ta)
    (hd : (a == ("__debug__" : Str)) = false := by decide) (hcd : (a == ("__classdict__" : Str)) = false := by decide)
    (he : starEach [e] ((cxOf CXg P w K mg base Ng qg sg g cdg A outer s H Eg).tr pn xe).env = (false, eval e ((cxOf CXg P w K mg base Ng qg sg g cdg A outer s H Eg).tr pn xe).env) :: starEach [] ((cxOf CXg P w K mg base Ng qg sg g cdg A outer s H Eg).tr pn xe).env := by rfl)
    (hpl : (backTo p2 (starEach [] ((cxOf CXg P w K mg base Ng qg sg g cdg A outer s H Eg).tr pn xe).env)).any (·.1) = false := by rfl) :
    PE ((cxOf CXg P w K mg base Ng qg sg g cdg A outer s H Eg).tr pn xe) (.Call (.Name a p1) [e] [] p2) (tActS i f c' q tl ta) := by
  refine ⟨fun pinsZ sZ σZ HZ Q IZ h => ?_⟩
  obtain ⟨hs, ht⟩ := h
  refine wpAny_Call_Name_kw (thn ((pe_var (pos := p1) (i := i) hN hv hd hcd).run pinsZ sZ σZ HZ (fun v H1 => v = .ref f ∧ H1 = HZ) IZ ⟨.ref f, hs, rfl, rfl⟩) fun u s1 ⟨v, H1, I1, r1, q1⟩ => ?_)
  obtain ⟨ev, eH⟩ := q1
  subst ev
  rw [eH] at I1
  obtain rfl : u = Value.ref f := r1
  have fnAt : ∀ (σ' : L2.St) (H' : Hp) (s' : Shared), Inv ((cxOf CXg P w K mg base Ng qg sg g cdg A outer s H Eg).tr pn xe) pinsZ σ' H' s' → PySem.W.FnAt f s'.heap := fun σ' H' s' I' => by
    obtain ⟨nm, q', pa, body, sc, cl, pm, ctv, ho⟩ := (Lv.at I').obj
    exact ⟨_, _, _, _, ho⟩
  refine PySem.W.callWith_F (fnAt _ _ _ I1) (thn (ha.run p2 pinsZ s1 σZ HZ _ I1 ht) fun us s2 ⟨vs, H2, I2, r2, x, ex, hc, q⟩ => ⟨fnAt _ _ _ I2, ?_⟩) he hpl
  subst ex
  obtain ⟨u, rfl, ru⟩ := vals1 r2
  have L2' := Lv.at I2
  have rc := L2'.act (A.deeper (envOfC qg sg s.heap.objs.size g cdg)) (envOfC qg sg s.heap.objs.size g cdg :: outer) s2 H2 u x Q hr I2.env0 (fun _ h => h) L2'.fr Un.refl ru hc q
  have hx : Passes (L2.CX P w) ((cxOf CXg P w K mg base Ng qg sg g cdg A outer s H Eg).tr pn xe) C8.E0 := passes_call takes0 (fun _ _ _ _ h => h)
  refine wpAny_call (codeAny_mono rc fun r s' hq => ?_)
  cases r with
  | error e => exact hx pinsZ σZ H2 s2 e s' I2 hq
  | ok fl =>
    cases fl with
    | ret u => exact I2.after hq
    | next => exact False.elim hq
    | brk => exact False.elim hq
    | cont => exact False.elim hq
/-- the def that calls what it got as its second argument, or hands it on; TT: what it makes of the lambda's reading -/
def GivesS (P : Program) (w : World) (K : PySem.W.Frag) (mg : Str → Option Value) (base : Heap) (k j : Nat) (Ng : List Str) (x : Str) (sg : Scope) (g : Addr) (cdg : Value) (bg : List Stmt) (q : Str) (TT : (V → Hp → VK → Prop) → V → Hp → VK → Prop) : Prop :=
  ∀ (A : Around) (outer : List Env) (s : Shared) (H : Hp) (f c' : Addr) (v0 : V) (Q : VK) (tl : V → Hp → VK → Prop), Room (k + j + 1) (A.deeper (envOfC x sg s.heap.objs.size g cdg)) →
    Lives P w K mg base k f c' q tl (frs outer) s H → H c' = some (CodeO c' q) → TT tl v0 H Q →
    ∃ t, PSs (cxOf C8.CX0 P w K mg base Ng x sg g cdg A outer s H C8.E0).nox bg t ∧ t { nx := fun _ H' => Q .non H', rt := Q } (L2.start Ng [v0, .ref f]) H
def tLamS (T : List (Addr × Str)) (TT : (V → Hp → VK → Prop) → V → Hp → VK → Prop) (ip : Nat) (t0 : TE) (t : TE) : TE := fun σ H Q => t0 σ H fun v0 H0 => Tabs T H0 ∧ ∀ H1, ExtN H0 H1 → Tabs T H1 → TT (fun y H' Q' => t (σ.set ip (some y)) H' Q') v0 H1 Q
def tPassS (i : Nat) (f c' : Addr) (q : Str) (tl : V → Hp → VK → Prop) (TT : (V → Hp → VK → Prop) → V → Hp → VK → Prop) (t0 : TE) : TE := fun σ H Q => t0 σ H fun v0 H0 => σ[i]? = some (some (.ref f)) ∧ H0 c' = some (CodeO c' q) ∧ TT tl v0 H0 Q
section
variable {X : Cx}
/-- x(e0, lambda p: body) -/
theorem pe_lamcallS {T : List (Addr × Str)} {TT : (V → Hp → VK → Prop) → V → Hp → VK → Prop} {x a0 a pr : Str} {g c P : Addr} {k j ip : Nat} {pg : Arguments} {bg : List Stmt} {sg : Scope} {dV kV doc pm cdv ct oc : Value} {an od : Option Addr} {osl : Array (Option Value)} {Ng : List Str}
    {params : Arguments} {body e0 : Expr} {scope : Scope} {t0 : TE} {t : TE} {p lpos pos : Pos} (hg : Gl X x) (hm : X.mg x = some (.ref g)) (hk : PySem.W.keepIn X.K (.ref g) = true)
    (lk : X.K.lookup g = some ⟨oc, od, .func (PySem.W.fnOf x x pg bg sg dV kV doc pm an cdv ct), osl⟩) (hcg : PySem.W.codeIn X.K cdv x = true) (hb : L2.Binds X.K (PySem.W.fnOf x x pg bg sg dV kV doc pm an cdv ct) [a0, a] []) (Sg : FnScope Ng [a0, a] sg)
    (hG : GivesS X.prog X.w X.K X.mg X.base k j Ng x sg g cdv bg (X.env.qual ++ "<lambda>") TT) (h0 : PE X e0 t0)
    (TB : TabB X.base X.mg c P) (hcode : X.env.code = .ref c) (hmT : (P, X.env.qual ++ "<lambda>") ∈ T) (hu : ∀ p ∈ T, p.1 = P → p.2 = X.env.qual ++ "<lambda>") (hr : Room (k + j + 2) X.A) (L : LamP X.env.scope scope X.N pr ip) (hdef : defaultsOf params X.env = ([], []))
    (hbind : ∀ (q : Str) (cl : List (Str × Addr)) (pm cv ctv u : Value), bindArgs (PySem.W.kla_fn "<lambda>" q params body scope cl pm cv ctv) ⟨[u], []⟩ = pure [(pr, u)])
    (hbody : ∀ (A : Around) (outer : List Env) (s : Shared) (H : Hp) (f c' : Addr), Room k (A.deeper (lamEnv X scope s.heap.objs.size f c')) → PE (lamCx X A outer s H C8.E0 scope f c') body t)
    (hdb : (x == ("__debug__" : Str)) = false := by decide)
    (he : starEach [e0, .Lambda params body scope lpos] X.env = (false, eval e0 X.env) :: starEach [.Lambda params body scope lpos] X.env := by rfl) :
    PE X (.Call (.Name x p) [e0, .Lambda params body scope lpos] [] pos) (tLamS T TT ip t0 t) := by
  refine ⟨fun pins s σ H Q I h => ?_⟩
  refine wpAny_Call_Name_kw (ld_glob I hg hm ?_ hdb)
  refine PySem.W.callWith_K (h₀ := X.base) I.ok.mod.kin hk ?_ he (by rfl)
  rw [he]
  show wpAny _ _ (spliced ((false, eval e0 X.env) :: (false, eval (.Lambda params body scope lpos) X.env) :: backTo pos (starEach [] X.env))) _ _ s
  refine Calls.spliced_cons (thn (h0.run pins s σ H _ I h) fun u0 s0 ⟨v0, H0, I0, r0, hT, h⟩ => ?_)
  refine Calls.spliced_cons (lam_make2 I0 TB hcode hmT hu hT hdef (L.has I0.ok) fun f c' pm' ctv H1 s' I1 eN T1 hf hfn hfr hco => ?_)
  refine Calls.spliced_nil ⟨I1.kIn, ?_⟩
  have rc : codeAny (model X.prog X.w) X.A (.call (.ref g) ⟨[u0, .ref f], []⟩) (CR C8.CX0 X.stack X.prog X.w H1 s' Q C8.E0) s' := by
    refine run_ofS (N := Ng) (ps := [a0, a]) (us := [u0, .ref f]) (vs := [v0, .ref f]) lk hcg Sg hr I1.env0 (hb s' [u0, .ref f] I1.kIn rfl) (.cons r0 (.cons rfl .nil)) rfl fun hr' => ?_
    have Lv := lam_lives (k := k) I1 L hf hfn hfr (fun u => hbind _ _ _ _ _ u) (fun A outer s H hr2 => hbody A outer s H f c' hr2)
    obtain ⟨t', ht', hq'⟩ := hG X.A X.stack s' H1 f c' v0 Q _ hr' Lv hco (h H1 eN T1)
    exact ⟨t', ht'.nox, hq'⟩
  refine wpAny_call (codeAny_mono rc fun r s2 hq => ?_)
  cases r with
  | error e => exact (show False from hq).elim
  | ok fl =>
    cases fl with
    | ret u => exact I1.after hq
    | next => exact False.elim hq
    | brk => exact False.elim hq
    | cont => exact False.elim hq
end
/-- x(e0, a): the lambda handed on -/
theorem pe_passS {CXg : CXT} {Eg : XK} {P : Program} {w : World} {K : PySem.W.Frag} {mg : Str → Option Value} {base : Heap} {Nz : List Str} {qz : Str} {sz : Scope} {z f c' : Addr} {cdz : Value} {A : Around} {outer : List Env} {s : Shared} {H : Hp} {k j i : Nat} {q : Str} {pn : List (Addr × Obj)} {xe : Value → Shared → Prop} {tl : V → Hp → VK → Prop} {TT : (V → Hp → VK → Prop) → V → Hp → VK → Prop} {x a0 a1 a : Str} {g : Addr}
    {pg : Arguments} {bg : List Stmt} {sg : Scope} {dV kV doc pm cdv ct oc : Value} {an od : Option Addr} {osl : Array (Option Value)} {Ng : List Str} {e0 : Expr} {t0 : TE} {p p1 pos : Pos}
    (Lv : Lives P w K mg base k f c' q tl (frs outer) s H) (hr : Room (k + j + 2) (A.deeper (envOfC qz sz s.heap.objs.size z cdz)))
    (hg : Gl ((cxOf CXg P w K mg base Nz qz sz z cdz A outer s H Eg).tr pn xe) x) (hm : mg x = some (.ref g)) (hk : PySem.W.keepIn K (.ref g) = true)
    (lk : K.lookup g = some ⟨oc, od, .func (PySem.W.fnOf x x pg bg sg dV kV doc pm an cdv ct), osl⟩) (hcg : PySem.W.codeIn K cdv x = true) (hb : L2.Binds K (PySem.W.fnOf x x pg bg sg dV kV doc pm an cdv ct) [a0, a1] []) (Sg : FnScope Ng [a0, a1] sg)
    (hG : GivesS P w K mg base k j Ng x sg g cdv bg q TT) (h0 : PE ((cxOf CXg P w K mg base Nz qz sz z cdz A outer s H Eg).tr pn xe) e0 t0)
    (hN : Nz[i]? = some a) (hv : Vis sz a)
    (hd : (a == ("__debug__" : Str)) = false := by decide) (hcd : (a == ("__classdict__" : Str)) = false := by decide) (hdb : (x == ("__debug__" : Str)) = false := by decide)
    (he : starEach [e0, .Name a p1] ((cxOf CXg P w K mg base Nz qz sz z cdz A outer s H Eg).tr pn xe).env = (false, eval e0 ((cxOf CXg P w K mg base Nz qz sz z cdz A outer s H Eg).tr pn xe).env) :: starEach [.Name a p1] ((cxOf CXg P w K mg base Nz qz sz z cdz A outer s H Eg).tr pn xe).env := by rfl) :
    PE ((cxOf CXg P w K mg base Nz qz sz z cdz A outer s H Eg).tr pn xe) (.Call (.Name x p) [e0, .Name a p1] [] pos) (tPassS i f c' q tl TT t0) := by
  refine ⟨fun pinsZ sZ σZ HZ Q IZ h => ?_⟩
  refine wpAny_Call_Name_kw (ld_glob IZ hg hm ?_ hdb)
  refine PySem.W.callWith_K (h₀ := base) IZ.ok.mod.kin hk ?_ he (by rfl)
  rw [he]
  show wpAny _ _ (spliced ((false, eval e0 ((cxOf CXg P w K mg base Nz qz sz z cdz A outer s H Eg).tr pn xe).env) :: (false, eval (.Name a p1) ((cxOf CXg P w K mg base Nz qz sz z cdz A outer s H Eg).tr pn xe).env) :: backTo pos (starEach [] ((cxOf CXg P w K mg base Nz qz sz z cdz A outer s H Eg).tr pn xe).env))) _ _ sZ
  refine Calls.spliced_cons (thn (h0.run pinsZ sZ σZ HZ _ IZ h) fun u0 s0 ⟨v0, H0, I0, r0, hs, hc, ht⟩ => ?_)
  refine Calls.spliced_cons (thn ((pe_var (pos := p1) (i := i) hN hv hd hcd).run pinsZ s0 σZ H0 (fun v H1 => v = .ref f ∧ H1 = H0) I0 ⟨.ref f, hs, rfl, rfl⟩) fun u s1 ⟨v, H1, I1, r1, q1⟩ => ?_)
  obtain ⟨ev, eH⟩ := q1
  subst ev
  rw [eH] at I1
  obtain rfl : u = Value.ref f := r1
  refine Calls.spliced_nil ⟨I1.kIn, ?_⟩
  have rc : codeAny (model P w) (A.deeper (envOfC qz sz s.heap.objs.size z cdz)) (.call (.ref g) ⟨[u0, .ref f], []⟩) (CR C8.CX0 (envOfC qz sz s.heap.objs.size z cdz :: outer) P w H0 s1 Q C8.E0) s1 := by
    refine run_ofS (N := Ng) (ps := [a0, a1]) (us := [u0, .ref f]) (vs := [v0, .ref f]) lk hcg Sg hr I1.env0 (hb s1 [u0, .ref f] I1.kIn rfl) (.cons r0 (.cons rfl .nil)) rfl fun hr' => ?_
    obtain ⟨t', ht', hq'⟩ := hG (A.deeper (envOfC qz sz s.heap.objs.size z cdz)) (envOfC qz sz s.heap.objs.size z cdz :: outer) s1 H0 f c' v0 Q tl hr' (Lv.at I1) hc ht
    exact ⟨t', ht'.nox, hq'⟩
  refine wpAny_call (codeAny_mono rc fun r s2 hq => ?_)
  cases r with
  | error e => exact (show False from hq).elim
  | ok fl =>
    cases fl with
    | ret u => exact I1.after hq
    | next => exact False.elim hq
    | brk => exact False.elim hq
    | cont => exact False.elim hq
end Vf

set_option Elab.async false
set_option linter.all false
set_option maxRecDepth 100000
set_option maxHeartbeats 4000000
namespace Vf
open PySem PySem.Spec PyProof.Rows L2 TL
/-- what the list of a comprehension holds: texts -/
def PvS (R : List Nat → Prop) (d l : Addr) (H : Hp) (D : Addr) (i : Nat) (H' : Hp) : Prop :=
  ∃ zss : List (List Nat), zss.length = i ∧ (∀ zs ∈ zss, R zs) ∧ Kp d H H' ∧ DI d l H' ∧ H' D = some (.lst (zss.map sV))
theorem PvS.start {R : List Nat → Prop} {d l D : Addr} {H : Hp} (hD : DI d l H) (nD : H D = none) : PvS R d l H D 0 (upd H D (.lst [])) :=
  ⟨[], rfl, (fun _ h => nomatch h), (Kp.refl d H).new nD, hD.new nD, upd_same⟩
theorem PvS.dice {R : List Nat → Prop} {d l D : Addr} {H H1 : Hp} {i : Nat} (p : PvS R d l H D i H1) : DI d l H1 := by
  obtain ⟨_, _, _, _, h, _⟩ := p
  exact h
theorem PvS.step {R : List Nat → Prop} {d l D : Addr} {H H1 H2 : Hp} {i : Nat} {zs : List Nat} (hD : DI d l H) (nD : H D = none) (p : PvS R d l H D i H1) (hi : i < 100000) (K2 : Kp d H1 H2) (D2 : DI d l H2) (r : R zs) :
    ∃ acc, H2 D = some (.lst acc) ∧ acc.length < sizeLine ∧ PvS R d l H D (i + 1) (upd H2 D (.lst (acc ++ [sV zs]))) := by
  obtain ⟨zss, hl, hR, K1, D1, e1⟩ := p
  have n1 := hD.nd nD
  have e2 : H2 D = some (.lst (zss.map sV)) := K2 _ _ n1.1 e1
  refine ⟨_, e2, ?_, zss ++ [zs], ?_, ?_, (K1.trans K2).mut nD, D2.at n1.1 n1.2, ?_⟩
  · rw [List.length_map, hl]
    exact Nat.lt_of_lt_of_le hi (by decide)
  · rw [List.length_append, hl]; rfl
  · intro z hz
    rcases List.mem_append.mp hz with h | h
    · exact hR z h
    · rw [List.mem_singleton.mp h]; exact r
  · rw [upd_same, List.map_append]; rfl
section
variable {P : Program} {w : World} {K : PySem.W.Frag} {mg : Str → Option Value} {base : Heap}
/-! ### pick, rare -/
/-- what is picked from -/
def Row (K : PySem.W.Frag) (H : Hp) (d : Addr) (row : V) (xs : List V) : Prop :=
  (∃ a, row = .ref a ∧ a ≠ d ∧ SqL K H a xs) ∨ ∃ zs, row = sV zs ∧ xs = zs.map fun c => sV [c]
def spPick (K : PySem.W.Frag) : Sp := fun vs H Q _ => ∃ (d l : Addr) (row : V) (xs : List V), vs = [.ref d, row] ∧ DI d l H ∧ Row K H d row xs ∧ 0 < xs.length ∧ xs.length ≤ 1000 ∧
  ∀ H' v, Kp d H H' → DI d l H' → v ∈ xs → Q v H'
theorem at_draw {xs : List V} {r : Int} (h : 0 < xs.length) (h1 : (xs.length : Int) < 2 → r = 0) (h2 : 2 ≤ (xs.length : Int) → 0 ≤ r ∧ r < (xs.length : Int)) :
    ∃ (j : Nat) (hj : j < xs.length), r = (j : Int) := by
  by_cases h3 : 2 ≤ (xs.length : Int)
  · have ⟨a, b⟩ := h2 h3
    exact ⟨r.toNat, by omega, by omega⟩
  · exact ⟨0, h, by rw [h1 (by omega)]; rfl⟩
theorem ok_pick (T : Txt K mg) : FnOk P w K mg base CX0 2 T.a_law_pick T.d_law_pick ["_law_d", "_law_row"] (spPick K) := by
  have G_law_draw : FnOk P w K mg base CX0 1 T.a_law_draw T.d_law_draw ["_law_d", "_law_many"] spDraw := ok_draw T
  refine T.D_law_pick.F.ok sc_law_pick (fun vs H Q E h => ?_) (fun cdv A outer s H vs Q E hr h => ?_)
  · obtain ⟨d, l, row, xs, rfl, _⟩ := h
    rfl
  · obtain ⟨d, l, row, xs, rfl, hD, hR, h0, hx, q⟩ := h
    refine ⟨_, (pss_one (ps_ret (pe_ix ix_seq (pv 1) (pe_call G_law_draw (hr.mono (by decide)) (by rfl) T.D_law_draw.G T.D_law_draw.F.kp T.D_law_draw.B .nil pass0 (pa_cons (pv 0) (pa_cons (pe_callB call_len (by rfl) T.n_len PySem.boot_len (pa_cons (pv 1) pa_nil)) pa_nil))) (fun _ _ => rfl)))), ?_⟩
    have hlen : LenV K row H xs.length := by
      rcases hR with ⟨a, rfl, _, hS⟩ | ⟨zs, rfl, rfl⟩
      · exact .inl ⟨_, hS, rfl⟩
      · rw [List.length_map] at hx ⊢
        refine ⟨?_, (mkS_len zs).symm⟩
        rw [mkS_len]
        exact Nat.le_trans hx (by decide)
    refine ⟨_, rfl, _, rfl, _, rfl, _, _, rfl, hlen, d, l, _, rfl, hD, by omega, fun H' r k D' e1 e2 => ?_⟩
    obtain ⟨j, hj, rfl⟩ := at_draw h0 e1 e2
    rcases hR with ⟨a, rfl, nd, hS⟩ | ⟨zs, rfl, rfl⟩
    · exact .inl ⟨a, xs, _, xs[j], rfl, rfl, k.sq nd hS, atI_nat (List.getElem?_eq_getElem hj), q H' _ k D' (List.getElem_mem hj)⟩
    · have hj2 : j < zs.length := by rw [List.length_map] at hj; exact hj
      refine .inr (.inr ⟨mkS zs, _, zs[j], rfl, rfl, ?_, ?_, q H' _ k D' (List.mem_map.mpr ⟨zs[j], List.getElem_mem hj2, rfl⟩)⟩)
      · rw [mkS_len]; rw [List.length_map] at hx; exact Nat.le_trans hx (by decide)
      · rw [mkS_cps]; exact atI_nat (List.getElem?_eq_getElem hj2)
def spRare : Sp := fun vs H Q _ => ∃ (d l : Addr) (m : Int), vs = [.ref d, .int m] ∧ DI d l H ∧ m ≤ 1000000 ∧ ∀ H' b, Kp d H H' → DI d l H' → Q (.bl b) H'
theorem ok_rare (T : Txt K mg) : FnOk P w K mg base CX0 2 T.a_law_rare T.d_law_rare ["_law_d", "_law_many"] spRare := by
  have G_law_draw : FnOk P w K mg base CX0 1 T.a_law_draw T.d_law_draw ["_law_d", "_law_many"] spDraw := ok_draw T
  refine T.D_law_rare.F.ok sc_law_rare (fun vs H Q E h => ?_) (fun cdv A outer s H vs Q E hr h => ?_)
  · obtain ⟨d, l, m, rfl, _⟩ := h
    rfl
  · obtain ⟨d, l, m, rfl, hD, hm, q⟩ := h
    refine ⟨_, (pss_one (ps_ret (pe_cmpR op_eq (pe_call G_law_draw (hr.mono (by decide)) (by rfl) T.D_law_draw.G T.D_law_draw.F.kp T.D_law_draw.B .nil pass0 (pa_cons (pv 0) (pa_cons (pv 1) pa_nil))) (pe_op op_fdivN (pe_op op_mul (pv 1) pe_int) pe_int) (nomark _)))), ?_⟩
    refine ⟨_, rfl, _, rfl, d, l, m, rfl, hD, (by omega), fun H' r k D' e1 e2 => ?_⟩
    exact ⟨_, rfl, _, _, rfl, rfl, .inr ⟨by decide, by decide⟩, _, _, rfl, rfl, ⟨by decide, by decide⟩, rfl, q H' _ k D'⟩
/-! ### run, word -/
def spRun : Sp := fun vs H Q _ => ∃ (d l : Addr) (cs : List Nat) (n : Int), vs = [.ref d, sV cs, .int n] ∧ DI d l H ∧ 0 < cs.length ∧ cs.length ≤ 1000 ∧ 0 ≤ n ∧ n ≤ 1000 ∧
  ∀ H' zs, Kp d H H' → DI d l H' → (zs.length : Int) = n → (∀ c ∈ zs, c ∈ cs) → Q (sV zs) H'
/-- texts of one sign each -/
def One (cs zs : List Nat) : Prop := ∃ c, zs = [c] ∧ c ∈ cs
theorem one_flat {cs : List Nat} : ∀ {zss : List (List Nat)}, (∀ z ∈ zss, One cs z) → zss.flatten.length = zss.length ∧ ∀ c ∈ zss.flatten, c ∈ cs
  | [], _ => ⟨rfl, fun _ h => nomatch h⟩
  | z :: r, h => by
    obtain ⟨c, rfl, hc⟩ := h z List.mem_cons_self
    have ⟨a, b⟩ := one_flat (zss := r) fun y hy => h y (List.mem_cons_of_mem _ hy)
    rw [List.flatten_cons]
    refine ⟨by rw [List.length_append, a]; show 1 + r.length = r.length + 1; omega, fun x hx => ?_⟩
    rcases List.mem_append.mp hx with e | e
    · rw [List.mem_singleton.mp e]; exact hc
    · exact b x e
theorem pick_one {d l : Addr} {cs : List Nat} {H : Hp} {Q : VK} (hD : DI d l H) (h0 : 0 < cs.length) (hx : cs.length ≤ 1000) (q : ∀ H' zs, Kp d H H' → DI d l H' → One cs zs → Q (sV zs) H') : spPick K [.ref d, sV cs] H Q E0 := by
  refine ⟨d, l, _, _, rfl, hD, .inr ⟨cs, rfl, rfl⟩, by rw [List.length_map]; exact h0, by rw [List.length_map]; exact hx, fun H' v k D' hv => ?_⟩
  obtain ⟨c, hc, rfl⟩ := List.mem_map.mp hv
  exact q H' _ k D' ⟨c, rfl, hc⟩
def spWord : Sp := fun vs H Q _ => ∃ (d l : Addr) (lo hi : Int), vs = [.ref d, .int lo, .int hi] ∧ DI d l H ∧ 0 ≤ lo ∧ lo ≤ hi ∧ hi ≤ 900 ∧
  ∀ H' zs, Kp d H H' → DI d l H' → lo ≤ (zs.length : Int) → (zs.length : Int) ≤ hi → (∀ c ∈ zs, cW c = true) → Q (sV zs) H'
end
end Vf

set_option Elab.async false
set_option linter.all false
set_option maxRecDepth 100000
set_option maxHeartbeats 4000000
namespace Vf
open PySem PySem.Spec PyProof.Rows L2 TL
/-! ### rows of things, nets -/
def nV (w : Nat) : V := .int (w : Int)
def oV : Option Int → V
  | none => .non
  | some x => .int x
theorem oV_inj : ∀ {a b : Option Int}, oV a = oV b → a = b
  | none, none, _ => rfl
  | some _, some _, h => by rw [V.int.inj h]
  | none, some _, h => by cases h
  | some _, none, h => by cases h
theorem szN {n : Nat} (h : n < 100000) : n < sizeLine := Nat.lt_of_lt_of_le h (by decide)
theorem bTr {p : Prop} [Decidable p] (h : p) : V.bl (decide p) = V.bl true := by rw [decide_eq_true h]
theorem bFa {p : Prop} [Decidable p] (h : ¬ p) : V.bl (decide p) = V.bl false := by rw [decide_eq_false h]
theorem bNT {p : Prop} [Decidable p] (h : p) : V.bl (!decide p) = V.bl false := by rw [decide_eq_true h]; rfl
theorem bNF {p : Prop} [Decidable p] (h : ¬ p) : V.bl (!decide p) = V.bl true := by rw [decide_eq_false h]; rfl
/-- what stands in a list or tuple, thing by thing -/
def LV {α : Type} (R : V → α → Prop) (vs : List V) (rs : List α) : Prop := vs.length = rs.length ∧ ∀ (i : Nat) (r : α), rs[i]? = some r → ∃ x, vs[i]? = some x ∧ R x r
theorem LV.nil {α : Type} {R : V → α → Prop} : LV R [] [] := ⟨rfl, fun i r h => by cases i <;> cases h⟩
theorem LV.mono {α : Type} {R R' : V → α → Prop} {vs : List V} {rs : List α} (h : LV R vs rs) (k : ∀ x r, R x r → R' x r) : LV R' vs rs := ⟨h.1, fun i r e => by
  obtain ⟨x, e1, e2⟩ := h.2 i r e
  exact ⟨x, e1, k _ _ e2⟩⟩
theorem LV.snoc {α : Type} {R : V → α → Prop} {vs : List V} {rs : List α} {x : V} {r : α} (h : LV R vs rs) (hx : R x r) : LV R (vs ++ [x]) (rs ++ [r]) := by
  refine ⟨by rw [List.length_append, List.length_append, h.1]; rfl, fun i q e => ?_⟩
  by_cases hi : i < rs.length
  · rw [List.getElem?_append_left hi] at e
    obtain ⟨y, e1, e2⟩ := h.2 i q e
    exact ⟨y, by rw [List.getElem?_append_left (by rw [h.1]; exact hi)]; exact e1, e2⟩
  · rw [List.getElem?_append_right (by omega)] at e
    have e0 : i - rs.length = 0 := by
      have := (List.getElem?_eq_some_iff.mp e).1
      simp at this
      exact this
    rw [e0] at e
    have e : r = q := Option.some.inj e
    subst e
    exact ⟨x, by rw [List.getElem?_append_right (by rw [h.1]; omega), h.1, e0]; rfl, hx⟩
theorem LV.at {α : Type} {R : V → α → Prop} {vs : List V} {rs : List α} {i : Nat} {x : V} (h : LV R vs rs) (e : vs[i]? = some x) : ∃ r, rs[i]? = some r ∧ R x r := by
  have hi : i < rs.length := by rw [← h.1]; exact (List.getElem?_eq_some_iff.mp e).1
  obtain ⟨y, e1, e2⟩ := h.2 i _ (List.getElem?_eq_getElem hi)
  rw [e] at e1
  have := Option.some.inj e1
  subst this
  exact ⟨_, List.getElem?_eq_getElem hi, e2⟩
abbrev Arc := Nat × Nat × Nat
def ArcV (H : Hp) (x : V) (r : Arc) : Prop := ∃ b, x = .ref b ∧ H b = some (.tup [nV r.1, nV r.2.1, nV r.2.2])
theorem ArcV.mono {H H' : Hp} {x : V} {r : Arc} (h : ArcV H x r) (k : ∀ a xs, H a = some (.tup xs) → H' a = some (.tup xs)) : ArcV H' x r := by
  obtain ⟨b, e, f⟩ := h
  exact ⟨b, e, k _ _ f⟩
theorem kpTup {d l : Addr} {H H' : Hp} (D : DI d l H) (k : Kp d H H') : ∀ a xs, H a = some (.tup xs) → H' a = some (.tup xs) := fun a xs e => by
  obtain ⟨n, ⟨ns, h1⟩, i, b, s, c, h0, h2⟩ := D
  exact k _ _ (fun z => by rw [z, h2] at e; cases e) e
end Vf

set_option Elab.async false
set_option linter.all false
set_option maxRecDepth 100000
set_option maxHeartbeats 4000000
namespace Vf
open PySem PySem.Spec PyProof.Rows L2 TL
/-! ### least totals along arcs: f the bounds, g the tails, of the arcs Pr -/
structure Bd (Pr : Arc → Prop) (f g : Nat → Option Nat) : Prop where
  z : f 0 = some 0 ∧ g 0 = none
  s : ∀ v y, v ≠ 0 → f v = some y → ∃ u c x, g v = some u ∧ Pr (u, v, c) ∧ f u = some x ∧ y = x + c ∧ ∀ u' c' x', Pr (u', v, c') → f u' = some x' → y ≤ x' + c' ∧ (y = x' + c' → u ≤ u')
  n : ∀ v, v ≠ 0 → f v = none → g v = none ∧ ∀ u' c', Pr (u', v, c') → f u' = none
def fset (f : Nat → Option Nat) (h : Nat) (x : Nat) : Nat → Option Nat := fun j => if j = h then some x else f j
theorem fset_same {f : Nat → Option Nat} {h x : Nat} : fset f h x h = some x := if_pos rfl
theorem fset_ne {f : Nat → Option Nat} {h x j : Nat} (e : j ≠ h) : fset f h x j = f j := if_neg e
theorem Bd.start : Bd (fun _ => False) (fset (fun _ => none) 0 0) (fun _ => none) where
  z := ⟨fset_same, rfl⟩
  s := fun v y hv e => by rw [fset_ne hv] at e; cases e
  n := fun v hv e => ⟨rfl, fun _ _ h => h.elim⟩
theorem Bd.congr {P P' : Arc → Prop} {f g : Nat → Option Nat} (B : Bd P f g) (h : ∀ a, P' a ↔ P a) : Bd P' f g := by
  have : P' = P := funext fun a => propext (h a)
  rw [this]; exact B
theorem Bd.put {Pr : Arc → Prop} {f g : Nat → Option Nat} {t h c x : Nat} (B : Bd Pr f g) (hp : ∀ a, Pr a → a.1 ≤ t) (th : t < h) (ft : f t = some x) (lo : ∀ y, f h = some y → x + c < y) :
    Bd (fun a => Pr a ∨ a = (t, h, c)) (fset f h (x + c)) (fset g h t) where
  z := ⟨by rw [fset_ne (by omega)]; exact B.z.1, by rw [fset_ne (by omega)]; exact B.z.2⟩
  s := fun v y hv e => by
    by_cases hh : v = h
    · subst hh
      rw [fset_same] at e
      have e := Option.some.inj e
      refine ⟨t, c, x, fset_same, .inr rfl, by rw [fset_ne (by omega)]; exact ft, e.symm, fun u' c' x' hP e' => ?_⟩
      rcases hP with hP | hP
      · have hu := hp _ hP
        have hu : u' ≤ t := hu
        rw [fset_ne (by omega)] at e'
        cases q : f v with
        | none => rw [(B.n v hv q).2 u' c' hP] at e'; cases e'
        | some y0 =>
          obtain ⟨_, _, _, _, _, _, _, H⟩ := B.s v y0 hv q
          have := H u' c' x' hP e'
          have := lo y0 q
          omega
      · cases hP
        rw [fset_ne (by omega), ft] at e'
        have := Option.some.inj e'
        omega
    · rw [fset_ne hh] at e
      obtain ⟨u, c0, x0, h1, h2, h3, h4, H⟩ := B.s v y hv e
      have hu : u ≤ t := hp _ h2
      refine ⟨u, c0, x0, by rw [fset_ne hh]; exact h1, .inl h2, by rw [fset_ne (by omega)]; exact h3, h4, fun u' c' x' hP e' => ?_⟩
      rcases hP with hP | hP
      · have hu' : u' ≤ t := hp _ hP
        rw [fset_ne (by omega)] at e'
        exact H u' c' x' hP e'
      · cases hP
        exact absurd rfl hh
  n := fun v hv e => by
    by_cases hh : v = h
    · subst hh; rw [fset_same] at e; cases e
    · rw [fset_ne hh] at e
      obtain ⟨h1, h2⟩ := B.n v hv e
      refine ⟨by rw [fset_ne hh]; exact h1, fun u' c' hP => ?_⟩
      rcases hP with hP | hP
      · have hu' : u' ≤ t := hp _ hP
        rw [fset_ne (by omega)]
        exact h2 u' c' hP
      · cases hP
        exact absurd rfl hh
theorem Bd.skip {Pr : Arc → Prop} {f g : Nat → Option Nat} {t h c x y : Nat} (B : Bd Pr f g) (hp : ∀ a, Pr a → a.1 ≤ t) (th : t < h) (ft : f t = some x) (fh : f h = some y) (le : y ≤ x + c) :
    Bd (fun a => Pr a ∨ a = (t, h, c)) f g where
  z := B.z
  s := fun v y' hv e => by
    obtain ⟨u, c0, x0, h1, h2, h3, h4, H⟩ := B.s v y' hv e
    refine ⟨u, c0, x0, h1, .inl h2, h3, h4, fun u' c' x' hP e' => ?_⟩
    rcases hP with hP | hP
    · exact H u' c' x' hP e'
    · cases hP
      rw [ft] at e'
      rw [fh] at e
      have e1 := Option.some.inj e'
      have e2 := Option.some.inj e
      have hu : u ≤ t := hp _ h2
      exact ⟨by omega, fun _ => hu⟩
  n := fun v hv e => by
    obtain ⟨h1, h2⟩ := B.n v hv e
    refine ⟨h1, fun u' c' hP => ?_⟩
    rcases hP with hP | hP
    · exact h2 u' c' hP
    · cases hP
      rw [fh] at e; cases e
theorem Bd.none_ {Pr P2 : Arc → Prop} {f g : Nat → Option Nat} (B : Bd Pr f g) (h : ∀ a, P2 a → f a.1 = none) : Bd (fun a => Pr a ∨ P2 a) f g where
  z := B.z
  s := fun v y hv e => by
    obtain ⟨u, c0, x0, h1, h2, h3, h4, H⟩ := B.s v y hv e
    refine ⟨u, c0, x0, h1, .inl h2, h3, h4, fun u' c' x' hP e' => ?_⟩
    rcases hP with hP | hP
    · exact H u' c' x' hP e'
    · have := h _ hP
      have this : f u' = none := this
      rw [this] at e'; cases e'
  n := fun v hv e => by
    obtain ⟨h1, h2⟩ := B.n v hv e
    refine ⟨h1, fun u' c' hP => ?_⟩
    rcases hP with hP | hP
    · exact h2 u' c' hP
    · exact h _ hP
theorem Bd.le {Pr : Arc → Prop} {f g : Nat → Option Nat} (B : Bd Pr f g) {u v c x : Nat} (hP : Pr (u, v, c)) (e : f u = some x) : ∃ y, f v = some y ∧ y ≤ x + c := by
  by_cases hv : v = 0
  · subst hv; exact ⟨0, B.z.1, Nat.zero_le _⟩
  · cases q : f v with
    | none => rw [(B.n v hv q).2 u c hP] at e; cases e
    | some y =>
      obtain ⟨_, _, _, _, _, _, _, H⟩ := B.s v y hv q
      exact ⟨y, rfl, (H u c x hP e).1⟩
/-- the cost of the arc from u to v -/
def cst (as : List Arc) (u v : Nat) : Option Nat := (as.find? fun a => decide (a.1 = u ∧ a.2.1 = v)).map (·.2.2)
theorem cst_mem {as : List Arc} {u v c : Nat} (h : cst as u v = some c) : (u, v, c) ∈ as := by
  unfold cst at h
  cases q : as.find? (fun a => decide (a.1 = u ∧ a.2.1 = v)) with
  | none => rw [q] at h; cases h
  | some a =>
    rw [q] at h
    have h := Option.some.inj h
    have h1 := List.find?_some q
    have h1 := of_decide_eq_true h1
    have h2 := List.mem_of_find?_eq_some q
    obtain ⟨a1, a2, a3⟩ := a
    obtain ⟨rfl, rfl⟩ := h1
    have h : a3 = c := h
    rw [← h]; exact h2
def ArcLt (a b : Arc) : Prop := a.1 < b.1 ∨ a.1 = b.1 ∧ a.2.1 < b.2.1
theorem cst_of {as : List Arc} {u v c : Nat} (pw : as.Pairwise fun a b => a.1 < b.1 ∨ a.1 = b.1 ∧ a.2.1 < b.2.1) (h : (u, v, c) ∈ as) : cst as u v = some c := by
  cases q : cst as u v with
  | some c2 =>
    have h2 := cst_mem q
    obtain ⟨i, hi, ei⟩ := List.mem_iff_getElem.mp h
    obtain ⟨j, hj, ej⟩ := List.mem_iff_getElem.mp h2
    rcases Nat.lt_trichotomy i j with l | l | l
    · have := List.pairwise_iff_getElem.mp pw i j hi hj l
      rw [ei, ej] at this
      simp at this
    · subst l
      rw [ei] at ej
      cases ej; rfl
    · have := List.pairwise_iff_getElem.mp pw j i hj hi l
      rw [ei, ej] at this
      simp at this
  | none =>
    unfold cst at q
    have q2 : as.find? (fun a => decide (a.1 = u ∧ a.2.1 = v)) = none := by
      cases r : as.find? (fun a => decide (a.1 = u ∧ a.2.1 = v)) with
      | none => rfl
      | some a => rw [r] at q; cases q
    have := List.find?_eq_none.mp q2 _ h
    simp at this
theorem cst_take {as : List Arc} {i : Nat} {a : Arc} (pw : as.Pairwise fun a b => a.1 < b.1 ∨ a.1 = b.1 ∧ a.2.1 < b.2.1) (e : as[i]? = some a) (u v : Nat) :
    cst (as.take (i + 1)) u v = if u = a.1 ∧ v = a.2.1 then some a.2.2 else cst (as.take i) u v := by
  obtain ⟨hi, ei⟩ := List.getElem?_eq_some_iff.mp e
  have et : as.take (i + 1) = as.take i ++ [a] := by rw [List.take_succ, e]; rfl
  have pw2 := pw.sublist (List.take_sublist (i + 1) as)
  by_cases c : u = a.1 ∧ v = a.2.1
  · rw [if_pos c, c.1, c.2]
    refine cst_of pw2 ?_
    rw [et]
    exact List.mem_append_right _ (List.mem_singleton.mpr rfl)
  · rw [if_neg c, et]
    unfold cst
    rw [List.find?_append]
    have : [a].find? (fun a => decide (a.1 = u ∧ a.2.1 = v)) = none := by
      rw [List.find?_eq_none]
      intro x hx
      rw [List.mem_singleton.mp hx]
      intro z
      have z := of_decide_eq_true z
      exact c ⟨z.1.symm, z.2.symm⟩
    rw [this, Option.or_none]
def stepT (as : List Arc) (acc : Option Nat) (u v : Nat) : Option Nat := match acc with
  | none => none
  | some x => (cst as u v).map (x + ·)
def totK (as : List Arc) (ns : List Nat) : Nat → Option Nat
  | 0 => some 0
  | k + 1 => stepT as (totK as ns k) (ns.getD k 0) (ns.getD (k + 1) 0)
def tot (as : List Arc) (ns : List Nat) : Option Nat := totK as ns (ns.length - 1)
theorem stepT_some {as : List Arc} {acc : Option Nat} {u v t : Nat} (h : stepT as acc u v = some t) : ∃ x c, acc = some x ∧ (u, v, c) ∈ as ∧ t = x + c := by
  unfold stepT at h
  cases acc with
  | none => cases h
  | some x =>
    have h : (cst as u v).map (x + ·) = some t := h
    cases q : cst as u v with
    | none => rw [q] at h; cases h
    | some c =>
      rw [q] at h
      exact ⟨x, c, rfl, cst_mem q, (Option.some.inj h).symm⟩
theorem stepT_of {as : List Arc} {x u v c : Nat} (pw : as.Pairwise fun a b => a.1 < b.1 ∨ a.1 = b.1 ∧ a.2.1 < b.2.1) (h : (u, v, c) ∈ as) : stepT as (some x) u v = some (x + c) := by
  show (cst as u v).map (x + ·) = _
  rw [cst_of pw h]; rfl
theorem totK_low {as : List Arc} {f g : Nat → Option Nat} (B : Bd (· ∈ as) f g) {ns : List Nat} (h0 : ns.getD 0 0 = 0) : ∀ (k t : Nat), totK as ns k = some t → ∃ y, f (ns.getD k 0) = some y ∧ y ≤ t
  | 0, t, h => ⟨0, by rw [h0]; exact B.z.1, Nat.zero_le _⟩
  | k + 1, t, h => by
    obtain ⟨x, c, e, hm, rfl⟩ := stepT_some h
    obtain ⟨y0, e1, l1⟩ := totK_low B h0 k x e
    obtain ⟨y, e2, l2⟩ := B.le hm e1
    exact ⟨y, e2, by omega⟩
theorem totK_pre {as : List Arc} {ns ms : List Nat} : ∀ k, k < ns.length → totK as (ns ++ ms) k = totK as ns k
  | 0, _ => rfl
  | k + 1, h => by
    show stepT as (totK as (ns ++ ms) k) _ _ = stepT as (totK as ns k) _ _
    rw [totK_pre k (by omega)]
    have e : ∀ j, j < ns.length → (ns ++ ms).getD j 0 = ns.getD j 0 := fun j hj => by
      rw [List.getD_eq_getElem?_getD, List.getD_eq_getElem?_getD, List.getElem?_append_left hj]
    rw [e k (by omega), e (k + 1) h]
theorem tot_snoc {as : List Arc} {ns : List Nat} (u v : Nat) (hl : 0 < ns.length) (hu : ns.getD (ns.length - 1) 0 = u) : tot as (ns ++ [v]) = stepT as (tot as ns) u v := by
  unfold tot
  rw [List.length_append]
  show totK as (ns ++ [v]) (ns.length + 1 - 1) = _
  obtain ⟨m, hm⟩ : ∃ m, ns.length = m + 1 := ⟨ns.length - 1, by omega⟩
  rw [hm] at hu ⊢
  show stepT as (totK as (ns ++ [v]) m) _ _ = stepT as (totK as ns m) u v
  rw [totK_pre m (by omega)]
  have e1 : (ns ++ [v]).getD m 0 = u := by
    rw [List.getD_eq_getElem?_getD, List.getElem?_append_left (by omega), ← List.getD_eq_getElem?_getD]; exact hu
  have e2 : (ns ++ [v]).getD (m + 1) 0 = v := by
    rw [List.getD_eq_getElem?_getD, List.getElem?_append_right (by omega), hm]
    simp
  rw [e1, e2]
def mids (b : Nat → Bool) (n : Nat) : List Nat := (List.range n).filterMap fun k => if b k = true then some (k + 1) else none
theorem mids_succ (b : Nat → Bool) (n : Nat) : mids b (n + 1) = mids b n ++ if b n = true then [n + 1] else [] := by
  unfold mids
  rw [List.range_succ, List.filterMap_append]
  congr 1
  by_cases h : b n = true
  · rw [if_pos h]; simp [h]
  · rw [if_neg h]; simp [h]
theorem mids_congr {b b' : Nat → Bool} : ∀ n, (∀ k, k < n → b k = b' k) → mids b n = mids b' n
  | 0, _ => rfl
  | n + 1, h => by rw [mids_succ, mids_succ, mids_congr n (fun k hk => h k (by omega)), h n (by omega)]
theorem mids_len (b : Nat → Bool) : ∀ n, (mids b n).length ≤ n
  | 0 => Nat.le_refl _
  | n + 1 => by
    rw [mids_succ, List.length_append]
    have := mids_len b n
    split
    · show _ + 1 ≤ _; omega
    · show _ + 0 ≤ _; omega
def nodesOf (b : Nat → Bool) (v : Nat) : List Nat := 0 :: (mids b (v - 1) ++ [v])
theorem nodes_0 (b : Nat → Bool) (v : Nat) : (nodesOf b v).getD 0 0 = 0 := rfl
theorem nodes_len (b : Nat → Bool) (v : Nat) : (nodesOf b v).length = (mids b (v - 1)).length + 2 := by
  show (mids b (v - 1) ++ [v]).length + 1 = _
  rw [List.length_append]; rfl
theorem nodes_last (b : Nat → Bool) (v : Nat) : (nodesOf b v).getD ((nodesOf b v).length - 1) 0 = v := by
  rw [nodes_len]
  show (mids b (v - 1) ++ [v]).getD (mids b (v - 1)).length 0 = v
  rw [List.getD_eq_getElem?_getD, List.getElem?_append_right (Nat.le_refl _)]
  simp
/-- the way to v by the way to u -/
def byU (b : Nat → Bool) (u : Nat) : Nat → Bool := fun k => if k + 1 < u then b k else decide (k + 1 = u)
theorem mids_by (b : Nat → Bool) (u : Nat) (hu : u ≠ 0) : ∀ j, mids (byU b u) (u + j) = mids b (u - 1) ++ [u]
  | 0 => by
    obtain ⟨m, rfl⟩ : ∃ m, u = m + 1 := ⟨u - 1, by omega⟩
    rw [Nat.add_zero, mids_succ, if_pos (by unfold byU; rw [if_neg (by omega)]; exact decide_eq_true rfl), mids_congr m (b' := b) fun k hk => by unfold byU; rw [if_pos (by omega)]]
    rfl
  | j + 1 => by
    show mids (byU b u) (u + j + 1) = _
    rw [mids_succ, mids_by b u hu j, if_neg (by unfold byU; rw [if_neg (by omega)]; exact fun z => by have := of_decide_eq_true z; omega), List.append_nil]
theorem nodes_by (b : Nat → Bool) {u v : Nat} (hu : u ≠ 0) (h : u < v) : nodesOf (byU b u) v = nodesOf b u ++ [v] := by
  unfold nodesOf
  obtain ⟨j, rfl⟩ : ∃ j, v = u + j + 1 := ⟨v - u - 1, by omega⟩
  rw [show u + j + 1 - 1 = u + j by omega, mids_by b u hu]
  rfl
theorem mids_false : ∀ n, mids (fun _ => false) n = []
  | 0 => rfl
  | n + 1 => by rw [mids_succ, mids_false n]; rfl
theorem tot_two {as : List Arc} {v : Nat} : tot as [0, v] = stepT as (some 0) 0 v := rfl
theorem tot_best {as : List Arc} {f g : Nat → Option Nat} (B : Bd (· ∈ as) f g) (up : ∀ a ∈ as, a.1 < a.2.1) (pw : as.Pairwise fun a b => a.1 < b.1 ∨ a.1 = b.1 ∧ a.2.1 < b.2.1) :
    ∀ (n v : Nat), v ≤ n → v ≠ 0 → ∀ y, f v = some y → ∃ b, tot as (nodesOf b v) = some y
  | 0, v, h, hv, _, _ => absurd (Nat.le_zero.mp h) hv
  | n + 1, v, h, hv, y, e => by
    obtain ⟨u, c, x, h1, h2, h3, h4, _⟩ := B.s v y hv e
    have huv : u < v := up _ h2
    by_cases hu : u = 0
    · subst hu
      refine ⟨fun _ => false, ?_⟩
      unfold nodesOf
      rw [mids_false]
      show tot as [0, v] = _
      rw [tot_two, B.z.1] at *
      have := Option.some.inj h3
      rw [stepT_of pw h2, h4, this]
    · obtain ⟨b, hb⟩ := tot_best B up pw n u (by omega) hu x h3
      refine ⟨byU b u, ?_⟩
      rw [nodes_by b hu huv, tot_snoc u v (by rw [nodes_len]; omega) (nodes_last b u), hb, stepT_of pw h2, h4]
/-- masks -/
def maskOf : Nat → (Nat → Bool) → Nat
  | 0, _ => 0
  | n + 1, b => (if b 0 = true then 1 else 0) + 2 * maskOf n (fun k => b (k + 1))
theorem mask_lt : ∀ (n : Nat) (b : Nat → Bool), maskOf n b < 2 ^ n
  | 0, _ => Nat.one_pos
  | n + 1, b => by
    have := mask_lt n (fun k => b (k + 1))
    show (if b 0 = true then 1 else 0) + 2 * maskOf n (fun k => b (k + 1)) < _
    rw [Nat.pow_succ]
    split <;> omega
def bitOf (m k : Nat) : Bool := decide (m / 2 ^ k % 2 = 1)
theorem mask_bit : ∀ (n : Nat) (b : Nat → Bool) (k : Nat), k < n → bitOf (maskOf n b) k = b k
  | 0, _, _, h => absurd h (Nat.not_lt_zero _)
  | n + 1, b, 0, _ => by
    show decide (((if b 0 = true then 1 else 0) + 2 * maskOf n (fun k => b (k + 1))) / 2 ^ 0 % 2 = 1) = b 0
    rw [Nat.pow_zero, Nat.div_one]
    cases h : b 0 with
    | true => exact decide_eq_true (by rw [if_pos rfl]; omega)
    | false => exact decide_eq_false (by rw [if_neg (by simp)]; omega)
  | n + 1, b, k + 1, h => by
    have ih := mask_bit n (fun k => b (k + 1)) k (by omega)
    show decide (((if b 0 = true then 1 else 0) + 2 * maskOf n (fun k => b (k + 1))) / 2 ^ (k + 1) % 2 = 1) = b (k + 1)
    have e : ((if b 0 = true then 1 else 0) + 2 * maskOf n (fun k => b (k + 1))) / 2 ^ (k + 1) = maskOf n (fun k => b (k + 1)) / 2 ^ k := by
      rw [show 2 ^ (k + 1) = 2 * 2 ^ k by rw [Nat.pow_succ, Nat.mul_comm], ← Nat.div_div_eq_div_mul]
      congr 1
      split <;> omega
    rw [e]
    exact ih
theorem nodes_mask (b : Nat → Bool) (v : Nat) : nodesOf (bitOf (maskOf (v - 1) b)) v = nodesOf b v := by
  unfold nodesOf
  rw [mids_congr (v - 1) (fun k hk => mask_bit (v - 1) b k hk)]
end Vf

set_option Elab.async false
set_option linter.all false
set_option maxRecDepth 100000
set_option maxHeartbeats 4000000
namespace Vf
open PySem PySem.Spec PyProof.Rows L2 TL
/-! ### the way back by the tails -/
def rv (g : Nat → Option Nat) : Nat → Nat → List Nat
  | 0, v => [v]
  | n + 1, v => match g v with
    | none => [v]
    | some u => v :: rv g n u
def Rw (g : Nat → Option Nat) (v : Nat) : List Nat := rv g v v
theorem rv_fuel {g : Nat → Option Nat} (dn : ∀ v u, g v = some u → u < v) : ∀ (n m v : Nat), v ≤ n → v ≤ m → rv g n v = rv g m v
  | 0, 0, v, _, _ => rfl
  | 0, m + 1, v, h, _ => by
    have : v = 0 := by omega
    subst this
    show [0] = match g 0 with | none => [0] | some u => 0 :: rv g m u
    cases e : g 0 with
    | none => rfl
    | some u => exact absurd (dn 0 u e) (Nat.not_lt_zero _)
  | n + 1, 0, v, _, h => by
    have : v = 0 := by omega
    subst this
    show (match g 0 with | none => [0] | some u => 0 :: rv g n u) = [0]
    cases e : g 0 with
    | none => rfl
    | some u => exact absurd (dn 0 u e) (Nat.not_lt_zero _)
  | n + 1, m + 1, v, h1, h2 => by
    show (match g v with | none => [v] | some u => v :: rv g n u) = match g v with | none => [v] | some u => v :: rv g m u
    cases e : g v with
    | none => rfl
    | some u =>
      have := dn v u e
      show v :: rv g n u = v :: rv g m u
      rw [rv_fuel dn n m u (by omega) (by omega)]
theorem Rw_none {g : Nat → Option Nat} {v : Nat} (e : g v = none) : Rw g v = [v] := by
  unfold Rw
  cases v with
  | zero => rfl
  | succ n =>
    show (match g (n + 1) with | none => [n + 1] | some u => (n + 1) :: rv g n u) = _
    rw [e]
theorem Rw_some {g : Nat → Option Nat} (dn : ∀ v u, g v = some u → u < v) {v u : Nat} (e : g v = some u) : Rw g v = v :: Rw g u := by
  have h := dn v u e
  unfold Rw
  cases v with
  | zero => omega
  | succ n =>
    show (match g (n + 1) with | none => [n + 1] | some u => (n + 1) :: rv g n u) = _
    rw [e]
    show (n + 1) :: rv g n u = _
    rw [rv_fuel dn n u u (by omega) (Nat.le_refl _)]
theorem Rw_head (g : Nat → Option Nat) (v : Nat) : ∃ r, Rw g v = v :: r := by
  unfold Rw
  cases v with
  | zero => exact ⟨[], rfl⟩
  | succ n =>
    show ∃ r, (match g (n + 1) with | none => [n + 1] | some u => (n + 1) :: rv g n u) = _
    cases g (n + 1) with
    | none => exact ⟨[], rfl⟩
    | some u => exact ⟨_, rfl⟩
theorem Rw_len {g : Nat → Option Nat} (dn : ∀ v u, g v = some u → u < v) : ∀ (n v : Nat), v ≤ n → (Rw g v).length ≤ v + 1
  | 0, v, h => by
    have : v = 0 := by omega
    subst this
    exact Nat.le_refl 1
  | n + 1, v, h => by
    cases e : g v with
    | none => rw [Rw_none e]; exact Nat.succ_le_succ (Nat.zero_le _)
    | some u =>
      have h2 := dn v u e
      have := Rw_len dn n u (by omega)
      rw [Rw_some dn e, List.length_cons]; omega
def zI (ns : List Nat) : List Int := ns.map fun x : Nat => (x : Int)
theorem zI_lt_cons {v : Nat} {a b : List Nat} (h : zI a < zI b) : zI (v :: a) < zI (v :: b) := List.Lex.cons h
theorem zI_lt_head {u v : Nat} {a b : List Nat} (h : u < v) : zI (u :: a) < zI (v :: b) := List.Lex.rel (Int.ofNat_lt.mpr h)
/-- not above -/
def LeI (a b : List Nat) : Prop := zI a < zI b ∨ a = b
theorem LeI.cons {v : Nat} {a b : List Nat} (h : LeI a b) : LeI (v :: a) (v :: b) := by
  rcases h with h | h
  · exact .inl (zI_lt_cons h)
  · exact .inr (by rw [h])
theorem LeI.head {u v : Nat} {a b : List Nat} (h : u < v) : LeI (u :: a) (v :: b) := .inl (zI_lt_head h)
theorem Bd.dn {Pr : Arc → Prop} {f g : Nat → Option Nat} (B : Bd Pr f g) (up : ∀ a, Pr a → a.1 < a.2.1) : ∀ v u, g v = some u → u < v := fun v u e => by
  by_cases hv : v = 0
  · subst hv; rw [B.z.2] at e; cases e
  · cases h : f v with
    | none => rw [(B.n v hv h).1] at e; cases e
    | some y =>
      obtain ⟨u', c, x, h1, h2, _⟩ := B.s v y hv h
      rw [e] at h1
      have := Option.some.inj h1
      subst this
      exact up _ h2
/-- one arc more: the pair of v is not above the pair by this arc -/
theorem best_arc {as : List Arc} {f g : Nat → Option Nat} (B : Bd (· ∈ as) f g) (up : ∀ a ∈ as, a.1 < a.2.1) {u v c x : Nat} (h : (u, v, c) ∈ as) (e : f u = some x) : ∃ y, f v = some y ∧ LeI (y :: Rw g v) ((x + c) :: v :: Rw g u) := by
  have huv : u < v := up _ h
  have hv : v ≠ 0 := by omega
  have dn := B.dn up
  obtain ⟨y, hy, le⟩ := B.le h e
  obtain ⟨u0, c0, x0, h1, h2, h3, h4, H⟩ := B.s v y hv hy
  obtain ⟨l1, l2⟩ := H u c x h e
  refine ⟨y, hy, ?_⟩
  rcases Nat.lt_or_ge y (x + c) with lt | ge
  · exact LeI.head lt
  · have ey : y = x + c := by omega
    have lu := l2 ey
    rw [ey]
    refine LeI.cons ?_
    rw [Rw_some dn h1]
    refine LeI.cons ?_
    rcases Nat.lt_or_ge u0 u with k | k
    · obtain ⟨r, er⟩ := Rw_head g u0
      obtain ⟨r2, er2⟩ := Rw_head g u
      rw [er, er2]
      exact LeI.head k
    · exact .inr (by rw [show u0 = u by omega])
theorem best_from {as : List Arc} {f g : Nat → Option Nat} (B : Bd (· ∈ as) f g) (up : ∀ a ∈ as, a.1 < a.2.1) {v y : Nat} (hv : v ≠ 0) (e : f v = some y) : ∃ u c x, (u, v, c) ∈ as ∧ f u = some x ∧ y :: Rw g v = (x + c) :: v :: Rw g u := by
  obtain ⟨u, c, x, h1, h2, h3, h4, _⟩ := B.s v y hv e
  exact ⟨u, c, x, h2, h3, by rw [h4, Rw_some (B.dn up) h1]⟩
theorem path_min {as : List Arc} {f g : Nat → Option Nat} (B : Bd (· ∈ as) f g) (up : ∀ a ∈ as, a.1 < a.2.1) {ns : List Nat} (h0 : ns.getD 0 0 = 0) : ∀ (k t : Nat), k < ns.length → totK as ns k = some t → ∃ y, f (ns.getD k 0) = some y ∧ LeI (y :: Rw g (ns.getD k 0)) (t :: (ns.take (k + 1)).reverse)
  | 0, t, hk, h => by
    have ht : (0 : Nat) = t := Option.some.inj h
    subst ht
    refine ⟨0, by rw [h0]; exact B.z.1, .inr ?_⟩
    cases ns with
    | nil => cases hk
    | cons a r =>
      have : a = 0 := h0
      subst this
      show 0 :: Rw g 0 = 0 :: [0]
      rw [Rw_none B.z.2]
  | k + 1, t, hk, h => by
    obtain ⟨x, c, e, hm, rfl⟩ := stepT_some h
    obtain ⟨y', e1, l1⟩ := path_min B up h0 k x (by omega) e
    have et : (ns.take (k + 1 + 1)).reverse = ns.getD (k + 1) 0 :: (ns.take (k + 1)).reverse := by
      rw [List.take_succ, List.getElem?_eq_getElem hk, List.reverse_append, List.getD_eq_getElem?_getD, List.getElem?_eq_getElem hk]; rfl
    rw [et]
    obtain ⟨y, e2, l2⟩ := best_arc B up hm e1
    refine ⟨y, e2, ?_⟩
    generalize ns.getD (k + 1) 0 = v at *
    generalize (ns.take (k + 1)).reverse = q at *
    have l3 : LeI ((y' + c) :: v :: Rw g (ns.getD k 0)) ((x + c) :: v :: q) := by
      rcases l1 with l | l
      · cases l with
        | rel r =>
          have r : (y' : Int) < (x : Int) := r
          exact LeI.head (by omega)
        | cons r => exact .inl (zI_lt_cons (zI_lt_cons r))
      · injection l with l4 l5
        rw [l4, l5]; exact .inr rfl
    rcases l2 with l2 | l2
    · rcases l3 with l3 | l3
      · exact .inl (List.lt_trans l2 l3)
      · rw [← l3]; exact .inl l2
    · rw [l2]; exact l3
theorem tot_bestR {as : List Arc} {f g : Nat → Option Nat} (B : Bd (· ∈ as) f g) (up : ∀ a ∈ as, a.1 < a.2.1) (pw : as.Pairwise fun a b => a.1 < b.1 ∨ a.1 = b.1 ∧ a.2.1 < b.2.1) :
    ∀ (n v : Nat), v ≤ n → v ≠ 0 → ∀ y, f v = some y → ∃ b, tot as (nodesOf b v) = some y ∧ (nodesOf b v).reverse = Rw g v
  | 0, v, h, hv, _, _ => absurd (Nat.le_zero.mp h) hv
  | n + 1, v, h, hv, y, e => by
    obtain ⟨u, c, x, h1, h2, h3, h4, _⟩ := B.s v y hv e
    have huv : u < v := up _ h2
    by_cases hu : u = 0
    · subst hu
      refine ⟨fun _ => false, ?_⟩
      rw [Rw_some (B.dn up) h1, Rw_none B.z.2]
      unfold nodesOf
      rw [mids_false]
      show tot as [0, v] = _ ∧ [0, v].reverse = [v, 0]
      rw [tot_two, B.z.1] at *
      have := Option.some.inj h3
      rw [stepT_of pw h2, h4, this]
      exact ⟨rfl, rfl⟩
    · obtain ⟨b, hb, hr⟩ := tot_bestR B up pw n u (by omega) hu x h3
      refine ⟨byU b u, ?_, ?_⟩
      · rw [nodes_by b hu huv, tot_snoc u v (by rw [nodes_len]; omega) (nodes_last b u), hb, stepT_of pw h2, h4]
      · rw [nodes_by b hu huv, List.reverse_append, hr, Rw_some (B.dn up) h1]; rfl
end Vf

set_option Elab.async false
set_option linter.all false
set_option maxRecDepth 100000
set_option maxHeartbeats 4000000
namespace Vf
open PySem PySem.Spec PyProof.Rows L2 TL
/-! ### min of a list of tuples of ints -/
def dI (c : List Int) : PyData := .tuple (c.map .int)
theorem dl_lt (xs ys : List Int) : PySem.W.dataLt (dI xs) (dI ys) = decide (xs < ys) := by
  unfold dI
  rw [PySem.W.dataLt_tuple]
  exact PySem.W.dataLt_ints xs ys
theorem alike_ints : ∀ xs ys : List Int, PySem.W.alikeAll (xs.map .int) (ys.map .int) = true
  | [], ys => by
    cases ys <;> simp [PySem.W.alikeAll]
  | x :: xs, [] => by simp [PySem.W.alikeAll]
  | x :: xs, y :: ys => by
    simp only [List.map_cons, PySem.W.alikeAll, PySem.W.alike, Bool.true_and]
    exact alike_ints xs ys
theorem depth_ints : ∀ xs : List Int, PyData.depthAll (xs.map .int) = 0
  | [] => rfl
  | x :: xs => by
    simp only [List.map_cons, PyData.depthAll, PyData.depth]
    rw [depth_ints xs]; rfl
theorem depth_dI : ∀ cs : List (List Int), PyData.depthAll (cs.map dI) ≤ 1
  | [] => Nat.zero_le _
  | c :: cs => by
    have := depth_dI cs
    simp only [List.map_cons, PyData.depthAll, dI, PyData.depth]
    rw [depth_ints c]
    omega
theorem minD_dI : ∀ (cs : List (List Int)) (c : List Int), PySem.W.minD (dI c) (cs.map dI) = dI (cs.foldl (fun a y => if y < a then y else a) c) := by
  intro cs
  unfold PySem.W.minD
  induction cs with
  | nil => intro c; rfl
  | cons k r ih =>
    intro c
    rw [List.map_cons, List.foldl_cons, List.foldl_cons, ← ih, dl_lt]
    by_cases h : k < c
    · rw [if_pos h, if_pos (decide_eq_true h)]
    · rw [if_neg h, if_neg (by rw [decide_eq_false h]; decide)]
theorem lex_tri : ∀ a b : List Int, a < b ∨ a = b ∨ b < a
  | [], [] => .inr (.inl rfl)
  | [], _ :: _ => .inl .nil
  | _ :: _, [] => .inr (.inr .nil)
  | x :: a, y :: b => by
    rcases Int.lt_trichotomy x y with h | h | h
    · exact .inl (.rel h)
    · subst h
      rcases lex_tri a b with h | h | h
      · exact .inl (.cons h)
      · exact .inr (.inl (by rw [h]))
      · exact .inr (.inr (.cons h))
    · exact .inr (.inr (.rel h))
theorem lex_irr : ∀ {a : List Int}, ¬ a < a
  | [], h => by cases h
  | x :: a, h => by
    cases h with
    | rel h => omega
    | cons h => exact lex_irr h
theorem lex_tr : ∀ {a b c : List Int}, a < b → b < c → a < c
  | [], [], _, h, _ => by cases h
  | [], _ :: _, [], _, h => by cases h
  | [], _ :: _, _ :: _, _, _ => .nil
  | _ :: _, [], _, h, _ => by cases h
  | _ :: _, _ :: _, [], _, h => by cases h
  | x :: a, y :: b, z :: c, h, k => by
    cases h with
    | rel h =>
      cases k with
      | rel k => exact .rel (Int.lt_trans h k)
      | cons k => exact .rel h
    | cons h =>
      cases k with
      | rel k => exact .rel k
      | cons k => exact .cons (lex_tr h k)
theorem foldmin : ∀ (cs : List (List Int)) (c : List Int), ∀ y ∈ c :: cs, ¬ y < cs.foldl (fun a y => if y < a then y else a) c := by
  intro cs
  induction cs with
  | nil =>
    intro c y hy
    rw [List.mem_singleton.mp hy]; exact lex_irr
  | cons z cs ih =>
    intro c y hy
    rw [List.foldl_cons]
    have h := ih (if z < c then z else c)
    have h0 := h _ List.mem_cons_self
    by_cases hz : z < c
    · rw [if_pos hz] at h h0 ⊢
      rcases List.mem_cons.mp hy with e | e
      · subst e
        exact fun k => h0 (lex_tr hz k)
      · exact h y e
    · rw [if_neg hz] at h h0 ⊢
      rcases List.mem_cons.mp hy with e | e
      · rw [e]; exact h0
      · rcases List.mem_cons.mp e with e | e
        · subst e
          intro k
          rcases lex_tri y c with h1 | h1 | h1
          · exact hz h1
          · rw [h1] at k; exact h0 k
          · exact h0 (lex_tr h1 k)
        · exact h y (List.mem_cons_of_mem _ e)
def rMinT (K : PySem.W.Frag) : List V → Hp → VK → Prop := fun vs H Q => ∃ (a : Addr) (us : List V) (cs : List (List Int)), vs = [V.ref a] ∧ SqL K H a us ∧ us.length = cs.length ∧ (∀ (i : Nat) u c, us[i]? = some u → cs[i]? = some c → ∃ p, u = .ref p ∧ SqT K H p (c.map V.int)) ∧ 0 < cs.length ∧
  ∀ (i : Nat) u c, us[i]? = some u → cs[i]? = some c → (∀ y ∈ cs, ¬ y < c) → Q u H
theorem dp_ints {K : PySem.W.Frag} {H : Hp} : ∀ xs : List Int, DpAll K H (xs.map V.int) (xs.map .int)
  | [] => .nil
  | x :: xs => .cons (.int x) (dp_ints xs)
theorem dp_all {K : PySem.W.Frag} {H : Hp} : ∀ {us : List V} {cs : List (List Int)}, us.length = cs.length → (∀ (i : Nat) u c, us[i]? = some u → cs[i]? = some c → ∃ p, u = .ref p ∧ SqT K H p (c.map V.int)) → DpAll K H us (cs.map dI)
  | [], [], _, _ => .nil
  | [], _ :: _, h, _ => by cases h
  | _ :: _, [], h, _ => by cases h
  | u :: us, c :: cs, h, k => by
    obtain ⟨p, rfl, e⟩ := k 0 u c rfl rfl
    exact .cons (.tup e (dp_ints c)) (dp_all (Nat.succ.inj h) fun i u c hu hc => k (i + 1) u c hu hc)
theorem call_minT {X : Cx} (hc : X.calm = true) (hu : X.A.units + 64 < cLine) : CallR X (.builtin "min") (rMinT X.K) := by
  intro pins s σ H vs us' Q I r h
  obtain ⟨a, us, cs, rfl, hs, hl0, hk, hne, q⟩ := h
  obtain ⟨its, rv, hl, _⟩ := I.list hs
  rw [Vals.ref1 r]
  have hd := dp_all hl0 hk
  obtain ⟨as, hr⟩ := Dp.readsAll I _ _ _ hd rv
  cases cs with
  | nil => exact absurd hne (Nat.lt_irrefl 0)
  | cons c cs =>
    have dd := depth_dI (c :: cs)
    refine PySem.W.min_list_data (x := dI c) (xs := cs.map dI) (I.ok.hd hc) hl.isList hr ⟨fun x hx y hy => ?_, fun x hx => ?_⟩ ?_ fun i v h' tk bs hi rd hkp => ?_
    · obtain ⟨x, _, rfl⟩ := List.mem_map.mp (show x ∈ (c :: cs).map dI from hx)
      obtain ⟨y, _, rfl⟩ := List.mem_map.mp (show y ∈ (c :: cs).map dI from hy)
      simp only [dI, PySem.W.alike]
      exact alike_ints x y
    · obtain ⟨x, _, rfl⟩ := List.mem_map.mp (show x ∈ (c :: cs).map dI from hx)
      intro z; cases z
    · have e : PyData.depthAll (dI c :: cs.map dI) = PyData.depthAll ((c :: cs).map dI) := rfl
      rw [e]; omega
    · have hlen := rv.length
      have hi2 : i < its.length := by
        have := (Array.getElem?_eq_some_iff.mp hi).1
        simpa using this
      have gu : us[i]? = some us[i] := List.getElem?_eq_getElem (by omega)
      have gc : (c :: cs)[i]? = some (c :: cs)[i] := List.getElem?_eq_getElem (by omega)
      obtain ⟨v2, e2, r2⟩ := Vals.get rv gu
      have ev : v2 = v := by
        have h1 : its[i]? = some v := by simpa using hi
        rw [e2] at h1
        exact Option.some.inj h1
      subst ev
      obtain ⟨bs2, rd2, _, _, _⟩ := PySem.W.readsAll_at hr i v2 (by simpa using hi)
      have eg : ((c :: cs).map dI).getD i .none = dI (c :: cs)[i] := by
        have : ((c :: cs).map dI)[i]? = some (dI (c :: cs)[i]) := by rw [List.getElem?_map, gc]; rfl
        rw [List.getD_eq_getElem?_getD, this]; rfl
      rw [eg] at rd2
      have eu := (Reads.unique (PySem.W.reads_keeps hkp rd2) _ _ rd).1
      rw [minD_dI] at eu
      have em : (c :: cs)[i] = cs.foldl (fun a y => if y < a then y else a) c := by
        have h1 := PyData.tuple.inj eu
        exact List.map_inj_right (fun a b h => PyData.int.inj h) |>.mp h1
      refine ⟨us[i], H, I.kept hkp, r2, q i _ _ gu gc fun y hy => ?_⟩
      rw [em]
      exact foldmin cs c y hy
end Vf

set_option Elab.async false
set_option linter.all false
set_option maxRecDepth 100000
set_option maxHeartbeats 4000000
namespace Vf
open PySem PySem.Spec PyProof.Rows L2 TL
/-! ### min of a list of pairs of an int and a tuple of ints -/
def dP (c : Int × List Int) : PyData := .tuple [.int c.1, dI c.2]
def kyP (c : Int × List Int) : List Int := c.1 :: c.2
theorem eqv_dI {a b : List Int} (h : PyData.eqv (dI a) (dI b) = true) : a = b := by
  unfold dI at h
  induction a generalizing b with
  | nil =>
    cases b with
    | nil => rfl
    | cons y b => simp [PyData.eqv, PyData.eqvAll] at h
  | cons x a ih =>
    cases b with
    | nil => simp [PyData.eqv, PyData.eqvAll] at h
    | cons y b =>
      simp [PyData.eqv, PyData.eqvAll] at h
      rw [h.1, ih (b := b) (by simp [PyData.eqv]; exact h.2)]
theorem dlp_lt (a b : Int × List Int) : PySem.W.dataLt (dP a) (dP b) = decide (kyP a < kyP b) := by
  obtain ⟨t, xs⟩ := a
  obtain ⟨u, ys⟩ := b
  unfold dP kyP
  rw [PySem.W.dataLt_pair (by simp [PySem.W.alike]) (by simp only [dI, PySem.W.alike]; exact alike_ints xs ys)]
  show (if PyData.eqv (.int t) (.int u) = true then (if PyData.eqv (dI xs) (dI ys) = true then false else PySem.W.dataLt (dI xs) (dI ys)) else PySem.W.dataLt (.int t) (.int u)) = decide (t :: xs < u :: ys)
  have e1 : PyData.eqv (.int t) (.int u) = decide (t = u) := by
    by_cases c : t = u
    · subst c; simp [PyData.eqv]
    · simp [PyData.eqv, c]
  have e2 : PySem.W.dataLt (.int t) (.int u) = decide (t < u) := by
    have h := dl_lt [t] [u]
    unfold dI at h
    rw [PySem.W.dataLt_int]
  rw [e1]
  by_cases c : t = u
  · subst c
    rw [if_pos (decide_eq_true rfl)]
    by_cases c2 : PyData.eqv (dI xs) (dI ys) = true
    · rw [if_pos c2, eqv_dI c2]
      exact (decide_eq_false lex_irr).symm
    · rw [if_neg c2, dl_lt]
      by_cases c3 : xs < ys
      · rw [decide_eq_true c3]; exact (decide_eq_true (List.Lex.cons c3)).symm
      · rw [decide_eq_false c3]
        refine (decide_eq_false fun z => c3 ?_).symm
        cases z with
        | rel r => exact absurd r (Int.lt_irrefl t)
        | cons r => exact r
  · rw [if_neg (by rw [decide_eq_false c]; decide), e2]
    by_cases c3 : t < u
    · rw [decide_eq_true c3]; exact (decide_eq_true (List.Lex.rel c3)).symm
    · rw [decide_eq_false c3]
      refine (decide_eq_false fun z => c3 ?_).symm
      cases z with
      | rel r => exact r
      | cons r => exact absurd rfl c
theorem depth_dP : ∀ cs : List (Int × List Int), PyData.depthAll (cs.map dP) ≤ 2
  | [] => Nat.zero_le _
  | c :: cs => by
    have := depth_dP cs
    simp only [List.map_cons, PyData.depthAll, dP, PyData.depth, dI]
    rw [depth_ints c.2]
    omega
def minP (c : Int × List Int) (cs : List (Int × List Int)) : Int × List Int := cs.foldl (fun a y => if kyP y < kyP a then y else a) c
theorem minD_dP : ∀ (cs : List (Int × List Int)) (c : Int × List Int), PySem.W.minD (dP c) (cs.map dP) = dP (minP c cs) := by
  intro cs
  unfold PySem.W.minD minP
  induction cs with
  | nil => intro c; rfl
  | cons k r ih =>
    intro c
    rw [List.map_cons, List.foldl_cons, List.foldl_cons, ← ih, dlp_lt]
    by_cases h : kyP k < kyP c
    · rw [if_pos h, if_pos (decide_eq_true h)]
    · rw [if_neg h, if_neg (by rw [decide_eq_false h]; decide)]
theorem minP_key : ∀ (cs : List (Int × List Int)) (c : Int × List Int), kyP (minP c cs) = (cs.map kyP).foldl (fun a y => if y < a then y else a) (kyP c) := by
  intro cs
  unfold minP
  induction cs with
  | nil => intro c; rfl
  | cons k r ih =>
    intro c
    rw [List.map_cons, List.foldl_cons, List.foldl_cons, ih]
    by_cases h : kyP k < kyP c
    · rw [if_pos h, if_pos h]
    · rw [if_neg h, if_neg h]
theorem minP_low (cs : List (Int × List Int)) (c : Int × List Int) : ∀ y ∈ c :: cs, ¬ kyP y < kyP (minP c cs) := fun y hy => by
  rw [minP_key]
  exact foldmin (cs.map kyP) (kyP c) (kyP y) (by rw [← List.map_cons]; exact List.mem_map.mpr ⟨y, hy, rfl⟩)
theorem dP_inj {a b : Int × List Int} (h : dP a = dP b) : a = b := by
  obtain ⟨t, xs⟩ := a
  obtain ⟨u, ys⟩ := b
  unfold dP dI at h
  have h1 := PyData.tuple.inj h
  injection h1 with h2 h3
  injection h3 with h3 _
  have e1 := PyData.int.inj h2
  have e2 := List.map_inj_right (fun a b h => PyData.int.inj h) |>.mp (PyData.tuple.inj h3)
  have e1 : t = u := e1
  have e2 : xs = ys := e2
  rw [e1, e2]
def PrV (K : PySem.W.Frag) (H : Hp) (u : V) (c : Int × List Int) : Prop := ∃ p q, u = .ref p ∧ SqT K H p [.int c.1, .ref q] ∧ SqT K H q (c.2.map V.int)
def rMinP (K : PySem.W.Frag) : List V → Hp → VK → Prop := fun vs H Q => ∃ (a : Addr) (us : List V) (cs : List (Int × List Int)), vs = [V.ref a] ∧ SqL K H a us ∧ LV (PrV K H) us cs ∧ 0 < cs.length ∧
  ∀ (i : Nat) u c, us[i]? = some u → cs[i]? = some c → (∀ y ∈ cs, ¬ kyP y < kyP c) → Q u H
theorem dp_allP {K : PySem.W.Frag} {H : Hp} : ∀ {us : List V} {cs : List (Int × List Int)}, us.length = cs.length → (∀ (i : Nat) u c, us[i]? = some u → cs[i]? = some c → PrV K H u c) → DpAll K H us (cs.map dP)
  | [], [], _, _ => .nil
  | [], _ :: _, h, _ => by cases h
  | _ :: _, [], h, _ => by cases h
  | u :: us, c :: cs, h, k => by
    obtain ⟨p, q, rfl, e1, e2⟩ := k 0 u c rfl rfl
    exact .cons (.tup e1 (.cons (.int c.1) (.cons (.tup e2 (dp_ints c.2)) .nil))) (dp_allP (Nat.succ.inj h) fun i u c hu hc => k (i + 1) u c hu hc)
theorem call_minP {X : Cx} (hc : X.calm = true) (hu : X.A.units + 64 < cLine) : CallR X (.builtin "min") (rMinP X.K) := by
  intro pins s σ H vs us' Q I r h
  obtain ⟨a, us, cs, rfl, hs, lv, hne, q⟩ := h
  obtain ⟨its, rv, hl, _⟩ := I.list hs
  rw [Vals.ref1 r]
  have hl0 := lv.1
  have hd := dp_allP hl0 fun i u c hu hc => by
    obtain ⟨x, e1, e2⟩ := lv.2 i c hc
    rw [hu] at e1
    rw [Option.some.inj e1]; exact e2
  obtain ⟨as, hr⟩ := Dp.readsAll I _ _ _ hd rv
  cases cs with
  | nil => exact absurd hne (Nat.lt_irrefl 0)
  | cons c cs =>
    have dd := depth_dP (c :: cs)
    refine PySem.W.min_list_data (x := dP c) (xs := cs.map dP) (I.ok.hd hc) hl.isList hr ⟨fun x hx y hy => ?_, fun x hx => ?_⟩ ?_ fun i v h' tk bs hi rd hkp => ?_
    · obtain ⟨x, _, rfl⟩ := List.mem_map.mp (show x ∈ (c :: cs).map dP from hx)
      obtain ⟨y, _, rfl⟩ := List.mem_map.mp (show y ∈ (c :: cs).map dP from hy)
      simp only [dP, dI, PySem.W.alike, PySem.W.alikeAll, Bool.true_and, Bool.and_true]
      exact alike_ints x.2 y.2
    · obtain ⟨x, _, rfl⟩ := List.mem_map.mp (show x ∈ (c :: cs).map dP from hx)
      intro z; cases z
    · have e : PyData.depthAll (dP c :: cs.map dP) = PyData.depthAll ((c :: cs).map dP) := rfl
      rw [e]; omega
    · have hlen := rv.length
      have hi2 : i < its.length := by
        have := (Array.getElem?_eq_some_iff.mp hi).1
        simpa using this
      have gu : us[i]? = some us[i] := List.getElem?_eq_getElem (by omega)
      have gc : (c :: cs)[i]? = some (c :: cs)[i] := List.getElem?_eq_getElem (by omega)
      obtain ⟨v2, e2, r2⟩ := Vals.get rv gu
      have ev : v2 = v := by
        have h1 : its[i]? = some v := by simpa using hi
        rw [e2] at h1
        exact Option.some.inj h1
      subst ev
      obtain ⟨bs2, rd2, _, _, _⟩ := PySem.W.readsAll_at hr i v2 (by simpa using hi)
      have eg : ((c :: cs).map dP).getD i .none = dP (c :: cs)[i] := by
        have : ((c :: cs).map dP)[i]? = some (dP (c :: cs)[i]) := by rw [List.getElem?_map, gc]; rfl
        rw [List.getD_eq_getElem?_getD, this]; rfl
      rw [eg] at rd2
      have eu := (Reads.unique (PySem.W.reads_keeps hkp rd2) _ _ rd).1
      rw [minD_dP] at eu
      have em : (c :: cs)[i] = minP c cs := dP_inj eu
      refine ⟨us[i], H, I.kept hkp, r2, q i _ _ gu gc fun y hy => ?_⟩
      rw [em]
      exact minP_low cs c y hy
end Vf

set_option Elab.async false
set_option linter.all false
set_option maxRecDepth 100000
set_option maxHeartbeats 4000000
namespace Vf
open PySem PySem.Spec PyProof.Rows L2 TL
def NetOk (n : Nat) (as : List Arc) : Prop := 1 ≤ n ∧ n ≤ 30 ∧ as.length ≤ 210 ∧ (∀ a ∈ as, a.1 < a.2.1 ∧ a.2.1 < n) ∧ as.Pairwise (fun a b => a.1 < b.1 ∨ a.1 = b.1 ∧ a.2.1 < b.2.1)
def NetV (H : Hp) (v : V) (n : Nat) (as : List Arc) : Prop := ∃ a pa vs, v = .ref a ∧ H a = some (.tup [nV n, .ref pa]) ∧ H pa = some (.tup vs) ∧ LV (ArcV H) vs as
theorem NetV.mono {H H' : Hp} {v : V} {n : Nat} {as : List Arc} (h : NetV H v n as) (k : ∀ a xs, H a = some (.tup xs) → H' a = some (.tup xs)) : NetV H' v n as := by
  obtain ⟨a, pa, vs, e, h1, h2, h3⟩ := h
  exact ⟨a, pa, vs, e, k _ _ h1, k _ _ h2, h3.mono fun _ _ z => z.mono k⟩
section
variable {P : Program} {w : World} {K : PySem.W.Frag} {mg : Str → Option Value} {base : Heap}
def spNet : Sp := fun vs H Q _ => ∃ (d l : Addr), vs = [.ref d] ∧ DI d l H ∧ ∀ H' v n as, Kp d H H' → DI d l H' → NetV H' v n as → NetOk n as → Q v H'
theorem ok_net (T : Txt K mg) : FnOk P w K mg base CX0 3 T.a_law_net T.d_law_net ["_law_d"] spNet := by
  have G_law_draw : FnOk P w K mg base CX0 1 T.a_law_draw T.d_law_draw ["_law_d", "_law_many"] spDraw := ok_draw T
  have G_law_pick : FnOk P w K mg base CX0 2 T.a_law_pick T.d_law_pick ["_law_d", "_law_row"] (spPick K) := ok_pick T
  have G_law_rare : FnOk P w K mg base CX0 2 T.a_law_rare T.d_law_rare ["_law_d", "_law_many"] spRare := ok_rare T
  refine T.D_law_net.F.ok sc_law_net (fun vs H Q E h => ?_) (fun cdv A outer s H vs Q E hr h => ?_)
  · obtain ⟨d, l, rfl, _⟩ := h
    rfl
  · obtain ⟨d, l, rfl, hD, q⟩ := h
    refine ⟨_, (pss_cons (ps_set (i := 1) sc_law_net.nd rfl (.inl rfl) (pe_op op_add pe_int (pe_call G_law_draw (hr.mono (by decide)) (by rfl) T.D_law_draw.G T.D_law_draw.F.kp T.D_law_draw.B .nil pass0 (pa_cons (pv 0) (pa_cons pe_int pa_nil)))))
      (pss_cons (ps_set (i := 2) sc_law_net.nd rfl (.inl rfl) (pv 1))
      (Evl.pss_cut (ps_if (pt_val (pe_call G_law_rare (hr.mono (by decide)) (by rfl) T.D_law_rare.G T.D_law_rare.F.kp T.D_law_rare.B .nil pass0 (pa_cons (pv 0) (pa_cons pe_int pa_nil)))) (pss_cons (ps_set (i := 1) sc_law_net.nd rfl (.inl rfl) pe_int)
      (pss_one (ps_set (i := 2) sc_law_net.nd rfl (.inl rfl) pe_int))) pss_nil)
      (pss_cons (ps_set (i := 3) sc_law_net.nd rfl (.inl rfl) (pe_call G_law_pick (hr.mono (by decide)) (by rfl) T.D_law_pick.G T.D_law_pick.F.kp T.D_law_pick.B .nil pass0 (pa_cons (pv 0) (pa_cons (pe_lst (pa_cons pe_int (pa_cons pe_int (pa_cons pe_int (pa_cons pe_int pa_nil))))) pa_nil))))
      (pss_cons (ps_set (i := 4) sc_law_net.nd rfl (.inl rfl) (pe_lst pa_nil))
      (pss_cons (ps_for PassesOwn.never rfl (pi_range1 (by rfl) T.n_range (pa_cons (pv 1) pa_nil)) (pg_name (i := 5) sc_law_net.nd rfl (.inl rfl)) (pss_one (ps_for PassesOwn.never rfl (pi_range2 (by rfl) T.n_range (pa_cons (pe_op op_add (pv 5) pe_int) (pa_cons (pe_callB (call_min2 (by rfl)) (by rfl) T.n_min (by decide +kernel) (pa_cons (pv 1) (pa_cons (pe_op op_add (pe_op op_add (pv 5) (pv 2)) pe_int) pa_nil))) pa_nil))) (pg_name (i := 6) sc_law_net.nd rfl (.inl rfl)) (pss_one (ps_if (pt_cmpR op_gt (pe_call G_law_draw (hr.mono (by decide)) (by rfl) T.D_law_draw.G T.D_law_draw.F.kp T.D_law_draw.B .nil pass0 (pa_cons (pv 0) (pa_cons pe_int pa_nil))) pe_int (nomark _)) (pss_one (ps_expr (pe_bm PySem.F.plainAttrs_list PySem.F.slot_list_append PySem.F.type_list_append mt_append (pv 4) (pa_cons (pe_tup (pa_cons (pv 5) (pa_cons (pv 6) (pa_cons (pe_call G_law_draw (hr.mono (by decide)) (by rfl) T.D_law_draw.G T.D_law_draw.F.kp T.D_law_draw.B .nil pass0 (pa_cons (pv 0) (pa_cons (pv 3) pa_nil))) pa_nil)))) pa_nil)))) pss_nil)))))
      (pss_one (ps_ret (pe_tup (pa_cons (pv 1) (pa_cons (pe_callTy call_tuple_of (by rfl) T.n_tuple (by decide +kernel) (pa_cons (pv 4) pa_nil)) pa_nil))))))))))), ?_⟩
    refine ⟨_, rfl, d, l, 7, rfl, hD, by decide, fun H1 r k1 D1 _ r2 => ?_⟩
    have ⟨r0, r7⟩ := r2 (by decide)
    obtain ⟨m, rfl⟩ : ∃ m : Nat, r = (m : Int) := ⟨r.toNat, by omega⟩
    have m7 : m < 7 := by omega
    clear r2 r0 r7
    refine ⟨_, _, rfl, rfl, ?_⟩
    refine ⟨_, rfl, ?_⟩
    refine ⟨fun σ' H' => ∃ (n w : Nat), σ' = [some (.ref d), some (nV n), some (nV w), none, none, none, none] ∧ Kp d H H' ∧ DI d l H' ∧ 1 ≤ n ∧ n ≤ 30 ∧ w ≤ 7, ?_, ?_⟩
    · refine ⟨_, rfl, d, l, 16, rfl, D1, by decide, fun H2 b k2 D2 => ?_⟩
      cases b with
      | true => exact ⟨true, rfl, 30, 4, rfl, k1.trans k2, D2, by omega, by omega, by omega⟩
      | false => exact ⟨false, rfl, 1 + m, 1 + m, by rw [show nV (1 + m) = V.int (1 + (m : Int)) from rfl]; rfl, k1.trans k2, D2, by omega, by omega, by omega⟩
    rintro σ' H2 ⟨n, wd, rfl, k2, D2, hn1, hn30, hw⟩
    refine ⟨_, rfl, by show 4 ≤ sizeLine; decide, fun M nM => ?_⟩
    refine ⟨d, l, .ref M, [V.int 2, V.int 3, V.int 6, V.int 1000001], rfl, D2.new nM, .inl ⟨M, rfl, (D2.nd nM).1, SqL.of upd_same⟩, by decide, by decide, fun H3 v k3 D3 hv => ?_⟩
    obtain ⟨mo, rfl, mo1, mo2⟩ : ∃ mo : Nat, v = nV mo ∧ 2 ≤ mo ∧ mo ≤ 1000001 := by
      simp only [List.mem_cons, List.not_mem_nil, or_false] at hv
      rcases hv with rfl | rfl | rfl | rfl
      · exact ⟨2, rfl, by omega, by omega⟩
      · exact ⟨3, rfl, by omega, by omega⟩
      · exact ⟨6, rfl, by omega, by omega⟩
      · exact ⟨1000001, rfl, by omega, by omega⟩
    have k3 := (k2.new nM).trans k3
    refine ⟨by show 0 ≤ sizeLine; decide, fun A nA => ?_⟩
    have dA := D3.nd nA
    have D4 := D3.new (o := .lst []) nA
    have kA := k3.new (o := .lst []) nA
    have nA0 : H A = none := by
      cases e : H A with
      | none => rfl
      | some o => rw [k3 _ _ dA.1 e] at nA; cases nA
    refine ⟨_, rfl, (n : Int), rfl, by omega, by omega, ?_⟩
    rw [Int.toNat_natCast]
    refine for_it walk_range (fun i σ' H' => ∃ (vs : List V) (as : List Arc) (x3 x4 : Option V), σ' = [some (.ref d), some (nV n), some (nV wd), some (nV mo), some (.ref A), x3, x4] ∧ Kp d H H' ∧ DI d l H' ∧ H' A = some (.lst vs) ∧ LV (ArcV H') vs as ∧ as.length ≤ 7 * i ∧ (∀ a ∈ as, a.1 < i ∧ a.1 < a.2.1 ∧ a.2.1 < n) ∧ as.Pairwise (fun a b => a.1 < b.1 ∨ a.1 = b.1 ∧ a.2.1 < b.2.1)) ⟨[], [], none, none, rfl, kA, D4, upd_same, LV.nil, Nat.le_refl _, (fun _ h => nomatch h), List.Pairwise.nil⟩ (fun _ _ _ _ _ => trivial) ?_ ?_
    · rintro i x σ' H4 H5 hi ⟨vs, as, x3, x4, rfl, k2, D2, eA, lv, ln, hb, pw⟩ ⟨rfl, hx⟩
      have hx : x = .int (i : Int) := by rw [hx]; show V.int (0 + (i : Int)) = _; rw [Int.zero_add]
      subst hx
      refine ⟨_, rfl, _, _, rfl, rfl, _, rfl, _, rfl, _, rfl, _, _, rfl, rfl, _, _, rfl, rfl, _, _, rfl, ?_⟩
      obtain ⟨hb2, ehb, lhb1, lhb2⟩ : ∃ z : Nat, (if (i : Int) + (wd : Int) + 1 < (n : Int) then (i : Int) + (wd : Int) + 1 else (n : Int)) = (z : Int) ∧ z ≤ n ∧ z ≤ i + wd + 1 := by
        by_cases c : (i : Int) + (wd : Int) + 1 < (n : Int)
        · exact ⟨i + wd + 1, by rw [if_pos c]; rfl, by omega, by omega⟩
        · exact ⟨n, by rw [if_neg c], by omega, by omega⟩
      refine ⟨_, ((hb2 : Nat) : Int), congrArg (fun z : Int => [V.int ((i : Int) + 1), V.int z]) ehb, ⟨by omega, by omega, by omega, by omega⟩, ?_⟩
      have em : (((hb2 : Nat) : Int) - ((i : Int) + 1)).toNat = hb2 - (i + 1) := by omega
      rw [em]
      refine for_it walk_range (fun j σ' H' => ∃ (vs : List V) (as : List Arc) (x4 : Option V), σ' = [some (.ref d), some (nV n), some (nV wd), some (nV mo), some (.ref A), some (.int (i : Int)), x4] ∧ Kp d H H' ∧ DI d l H' ∧ H' A = some (.lst vs) ∧ LV (ArcV H') vs as ∧ as.length ≤ 7 * i + j ∧ (∀ a ∈ as, (a.1 < i ∨ a.1 = i ∧ a.2.1 < i + 1 + j) ∧ a.1 < a.2.1 ∧ a.2.1 < n) ∧ as.Pairwise (fun a b => a.1 < b.1 ∨ a.1 = b.1 ∧ a.2.1 < b.2.1)) ⟨vs, as, x4, rfl, k2, D2, eA, lv, ln, fun a h => ⟨.inl (hb a h).1, (hb a h).2⟩, pw⟩ (fun _ _ _ _ _ => trivial) ?_ ?_
      · rintro j x σ' H4 H5 hj ⟨vs, as, x4, rfl, k3, D3, eA, lv, ln, hb, pw⟩ ⟨rfl, hx⟩
        have hx : x = .int ((i + 1 + j : Nat) : Int) := by
          rw [hx]
          show V.int ((i : Int) + 1 + (j : Int)) = _
          rw [show (i : Int) + 1 + (j : Int) = ((i + 1 + j : Nat) : Int) by omega]
        subst hx
        refine ⟨_, rfl, d, l, 4, rfl, D3, by decide, fun H6 r4 k4 D4 _ q4 => ?_⟩
        have ⟨q0, _⟩ := q4 (by decide)
        have eA4 := k4 _ _ dA.1 eA
        have lv4 := lv.mono fun x r z => ArcV.mono z (kpTup D3 k4)
        refine ⟨_, _, rfl, rfl, _, rfl, ite2 (fun _ => ?_) (fun _ => ?_)⟩
        · refine ⟨.ref A, rfl, .inl ⟨rfl, _, .inl (.inl eA4)⟩, _, rfl, _, rfl, ?_⟩
          refine ⟨_, rfl, _, rfl, d, l, (mo : Int), rfl, D4, by omega, fun H7 r5 k5 D5 _ q5 => ?_⟩
          have ⟨q50, _⟩ := q5 (by omega)
          obtain ⟨c, rfl⟩ : ∃ c : Nat, r5 = (c : Int) := ⟨r5.toNat, by omega⟩
          refine ⟨by show 3 ≤ sizeLine; decide, fun B nB => ?_⟩
          have eA5 := k5 _ _ dA.1 eA4
          have lv5 := lv4.mono fun x r z => ArcV.mono z (kpTup D4 k5)
          have k6 := ((k3.trans k4).trans k5).new (o := .tup [nV i, nV (i + 1 + j), nV c]) nB
          have D6 := D5.new (o := .tup [nV i, nV (i + 1 + j), nV c]) nB
          have nAB : A ≠ B := ne_of_none eA5 nB
          have eA6 : upd H7 B (.tup [nV i, nV (i + 1 + j), nV c]) A = some (.lst vs) := by rw [upd_ne nAB]; exact eA5
          have lv6 : LV (ArcV (upd H7 B (.tup [nV i, nV (i + 1 + j), nV c]))) vs as := lv5.mono fun x r z => ArcV.mono z fun a xs e => by rw [upd_ne (ne_of_none e nB)]; exact e
          have eB : upd H7 B (.tup [nV i, nV (i + 1 + j), nV c]) B = some (.tup [nV i, nV (i + 1 + j), nV c]) := upd_same
          refine ⟨A, _, _, rfl, rfl, eA6, szN (by rw [lv5.1]; omega), ?_⟩
          refine ⟨vs ++ [.ref B], as ++ [(i, i + 1 + j, c)], _, rfl, k6.mut nA0, D6.at dA.1 dA.2, upd_same, ?_, by rw [List.length_append]; show as.length + 1 ≤ _; omega, ?_, ?_⟩
          · refine (lv6.snoc (x := .ref B) (r := (i, i + 1 + j, c)) ⟨B, rfl, eB⟩).mono fun x r z => ArcV.mono z fun a xs e => ?_
            have n : a ≠ A := fun z => by rw [z, eA6] at e; cases e
            rw [upd_ne n]; exact e
          · intro a ha
            rcases List.mem_append.mp ha with h | h
            · have ⟨h1, h2, h3⟩ := hb a h
              exact ⟨by omega, h2, h3⟩
            · rw [List.mem_singleton.mp h]
              exact ⟨.inr ⟨rfl, by show i + 1 + j < _; omega⟩, by show i < i + 1 + j; omega, by show i + 1 + j < n; omega⟩
          · rw [List.pairwise_append]
            refine ⟨pw, List.pairwise_singleton _ _, fun a ha b hb2 => ?_⟩
            rw [List.mem_singleton.mp hb2]
            exact (hb a ha).1
        · refine ⟨vs, as, _, rfl, k3.trans k4, D4, eA4, lv4, by omega, fun a ha => ?_, pw⟩
          have ⟨h1, h2, h3⟩ := hb a ha
          exact ⟨by omega, h2, h3⟩
      · rintro σ' H4 ⟨vs, as, x4, rfl, k3, D3, eA, lv, ln, hb, pw⟩
        refine ⟨vs, as, _, _, rfl, k3, D3, eA, lv, by omega, fun a ha => ?_, pw⟩
        have ⟨h1, h2, h3⟩ := hb a ha
        exact ⟨by omega, h2, h3⟩
    · rintro σ' H2 ⟨vs, as, x3, x4, rfl, k2, D2, eA, lv, ln, hb, pw⟩
      refine ⟨_, rfl, _, rfl, A, vs, rfl, .inl ⟨SqL.of eA, fun B nB => ?_⟩⟩
      refine ⟨by show 2 ≤ sizeLine; decide, fun R nR => ?_⟩
      have e1 : upd H2 B (.tup vs) B = some (.tup vs) := upd_same
      refine q _ (.ref R) n as ((k2.new nB).new nR) ((D2.new nB).new nR) ⟨R, B, vs, rfl, upd_same, by rw [upd_ne (ne_of_none e1 nR)]; exact e1, ?_⟩ ⟨by omega, hn30, by omega, fun a ha => (hb a ha).2, pw⟩
      refine lv.mono fun x r z => ArcV.mono z fun a xs e => ?_
      have e2 : upd H2 B (.tup vs) a = some (.tup xs) := by rw [upd_ne (ne_of_none e nB)]; exact e
      rw [upd_ne (ne_of_none e2 nR)]; exact e2
end
end Vf

set_option Elab.async false
set_option linter.all false
set_option maxRecDepth 100000
set_option maxHeartbeats 4000000
namespace Vf
open PySem PySem.Spec PyProof.Rows L2 TL LamX
def PairV (H : Hp) (x : V) (r : Nat × Nat) : Prop := ∃ b, x = .ref b ∧ H b = some (.tup [nV r.1, nV r.2])
theorem PairV.mono {H H' : Hp} {x : V} {r : Nat × Nat} (h : PairV H x r) (k : ∀ a xs, H a = some (.tup xs) → H' a = some (.tup xs)) : PairV H' x r := by
  obtain ⟨b, e, f⟩ := h
  exact ⟨b, e, k _ _ f⟩
def adj (as : List Arc) (i : Nat) : List (Nat × Nat) := as.filterMap fun a => if a.1 = i then some a.2 else none
theorem adj_take {as : List Arc} {i : Nat} {a : Arc} (e : as[i]? = some a) (k : Nat) : adj (as.take (i + 1)) k = adj (as.take i) k ++ if a.1 = k then [a.2] else [] := by
  unfold adj
  rw [show as.take (i + 1) = as.take i ++ [a] by rw [List.take_succ, e]; rfl, List.filterMap_append]
  congr 1
  by_cases h : a.1 = k
  · rw [if_pos h, List.filterMap_cons_some (b := a.2) (by rw [if_pos h])]; rfl
  · rw [if_neg h, List.filterMap_cons_none (by rw [if_neg h])]; rfl
theorem adj_mem {as : List Arc} {k : Nat} {p : Nat × Nat} : p ∈ adj as k ↔ (k, p) ∈ as := by
  unfold adj
  rw [List.mem_filterMap]
  constructor
  · rintro ⟨a, ha, e⟩
    by_cases h : a.1 = k
    · rw [if_pos h] at e
      have e := Option.some.inj e
      rw [← h, ← e]; exact ha
    · rw [if_neg h] at e; cases e
  · intro h
    exact ⟨(k, p), h, if_pos rfl⟩
theorem adj_len (as : List Arc) (k : Nat) : (adj as k).length ≤ as.length := List.length_filterMap_le _ _
def LeadV (H : Hp) (L : Addr) (n : Nat) (as : List Arc) : Prop := ∃ ls, H L = some (.lst ls) ∧ ls.length = n ∧ ∀ i, i < n → ∃ b vs, ls[i]? = some (.ref b) ∧ H b = some (.lst vs) ∧ LV (PairV H) vs (adj as i)
def LdI (H : Hp) (L : Addr) (n : Nat) (as : List Arc) (H' : Hp) : Prop := Same H H' ∧ ∃ ls : List Addr, H' L = some (.lst (ls.map V.ref)) ∧ ls.length = n ∧ ls.Nodup ∧ L ∉ ls ∧ H L = none ∧ ∀ i b, ls[i]? = some b → H b = none ∧ ∃ vs, H' b = some (.lst vs) ∧ LV (PairV H') vs (adj as i)
theorem LdI.lead {H H' : Hp} {L : Addr} {n : Nat} {as : List Arc} (h : LdI H L n as H') : LeadV H' L n as := by
  obtain ⟨_, ls, e1, e2, _, _, _, e3⟩ := h
  refine ⟨_, e1, by rw [List.length_map]; exact e2, fun i hi => ?_⟩
  have g : ls[i]? = some ls[i] := List.getElem?_eq_getElem (by omega)
  obtain ⟨_, vs, h1, h2⟩ := e3 i _ g
  exact ⟨ls[i], vs, by rw [List.getElem?_map, g]; rfl, h1, h2⟩
theorem nd_inj {α : Type} {ls : List α} (h : ls.Nodup) {i j : Nat} {b : α} (hi : ls[i]? = some b) (hj : ls[j]? = some b) : i = j := by
  obtain ⟨i1, i2⟩ := List.getElem?_eq_some_iff.mp hi
  obtain ⟨j1, j2⟩ := List.getElem?_eq_some_iff.mp hj
  rcases Nat.lt_trichotomy i j with l | l | l
  · exact absurd (i2.trans j2.symm) (List.pairwise_iff_getElem.mp h i j i1 j1 l)
  · exact l
  · exact absurd (j2.trans i2.symm) (List.pairwise_iff_getElem.mp h j i j1 i1 l)
def BdV (H : Hp) (D : Addr) (N : Nat) (f : Nat → Option Nat) : Prop := ∃ kvs : List (Key × V), H D = some (.dK kvs) ∧ kvs.length ≤ N ∧ ∀ j : Nat, valV kvs (Sum.inl (j : Int)) = (f j).map nV
theorem BdV.keep {H H' : Hp} {D : Addr} {N : Nat} {f : Nat → Option Nat} (h : BdV H D N f) (k : ∀ o, H D = some o → H' D = some o) : BdV H' D N f := by
  obtain ⟨kvs, e, r⟩ := h
  exact ⟨kvs, k _ e, r⟩
theorem BdV.keep' {H : Hp} {D : Addr} {N M : Nat} {f : Nat → Option Nat} (h : BdV H D N f) (l : N ≤ M) : BdV H D M f := by
  obtain ⟨kvs, e, r, v⟩ := h
  exact ⟨kvs, e, Nat.le_trans r l, v⟩
theorem BdV.get {H : Hp} {D : Addr} {N : Nat} {f : Nat → Option Nat} (h : BdV H D N f) (j : Nat) : DGet H D (nV j) ((f j).map nV) := by
  obtain ⟨kvs, e, _, v⟩ := h
  rw [← v j]
  exact DGet.k (k := Sum.inl (j : Int)) e
theorem BdV.put {H : Hp} {D : Addr} {N : Nat} {f : Nat → Option Nat} (h : BdV H D N f) (hN : N < 100000) (j x : Nat) : ∃ H', DPut H D (nV j) (nV x) H' ∧ BdV H' D (N + 1) (fset f j x) ∧ ∃ o, H' = upd H D o := by
  obtain ⟨kvs, e, l, v⟩ := h
  refine ⟨_, DPut.k (k := Sum.inl (j : Int)) e (szN (by omega)), ⟨_, upd_same, Nat.le_trans (length_putK _ _ _) (by omega), fun i => ?_⟩, _, rfl⟩
  rw [valV_put]
  by_cases c : i = j
  · subst c
    rw [if_pos rfl, fset_same]; rfl
  · rw [if_neg (fun (z : (Sum.inl ((i : Nat) : Int) : Key) = Sum.inl ((j : Nat) : Int)) => c (Int.ofNat.inj (Sum.inl.inj z))), fset_ne c]
    exact v i
/-- what _bounds_and_tails asks of the leads, and what it tells -/
def ttBt (tl : V → Hp → VK → Prop) (v0 : V) (H : Hp) (Q : VK) : Prop := ∃ (a : Addr) (n : Nat) (as : List Arc), v0 = .ref a ∧ H a = some (.lst ((List.range n).map nV)) ∧ NetOk n as ∧
  (∀ (i : Nat) (H' : Hp) (Q' : VK), i < n → Same H H' → (∀ b vs, H' b = some (.lst vs) → H b ≠ none → LV (PairV H') vs (adj as i) → Q' (.ref b) H') → tl (nV i) H' Q') ∧
  ∀ (H' : Hp) (B D1 D2 : Addr) (f g : Nat → Option Nat) (N : Nat), Same H H' → H' B = some (.tup [.ref D1, .ref D2]) → BdV H' D1 N f → BdV H' D2 N g → Bd (· ∈ as) f g → Q (.ref B) H'
section
variable {P : Program} {w : World} {K : PySem.W.Frag} {mg : Str → Option Value} {base : Heap}
def spLeading : Sp := fun vs H Q _ => ∃ (v : V) (n : Nat) (as : List Arc), vs = [v] ∧ NetV H v n as ∧ NetOk n as ∧ ∀ H' L, Same H H' → LeadV H' L n as → Q (.ref L) H'
theorem ok_leading (T : Txt K mg) : FnOk P w K mg base CX0 1 T.a_leading T.d_leading ["net"] spLeading := by
  refine T.D_leading.F.ok sc_leading (fun vs H Q E h => ?_) (fun cdv A outer s H vs Q E hr h => ?_)
  · obtain ⟨v, n, as, rfl, _⟩ := h
    rfl
  · obtain ⟨v, n, as, rfl, ⟨na, pa, us, rfl, e1, e2, lv⟩, ok, q⟩ := h
    have hn := ok.1
    have n7 := ok.2.1
    have lA := ok.2.2.1
    refine ⟨_, (pss_cons (ps_asg (pv 0) (pg_tup (by rfl) (pgs_cons (pg_name (i := 1) sc_leading.nd rfl (.inl rfl)) (pgs_cons (pg_name (i := 2) sc_leading.nd rfl (.inl rfl)) pgs_nil))))
      (pss_cons (ps_setLc (i := 3) (own := [("_", 7)]) (g := gName 7) (tt := tYes) rfl sc_leading.nd rfl rfl (sw_true rfl rfl rfl (by decide +kernel)) (pi_range1 (by rfl) T.n_range (pa_cons (pv 1) pa_nil)) (blkOk_by (own := [("_", 7)]) (N := ["net", "many", "arcs", "leading", "tail", "head", "cost", "_"]) (sc := (defScope s_leading)) (by decide +kernel)) (fun _ _ _ _ _ => (pg_name (i := 7) sc_leading.nd rfl (.inl rfl))) (fun _ _ _ _ _ => pts_nil) (fun _ _ _ _ _ => (pe_lst pa_nil)))
      (pss_cons (ps_for PassesOwn.never rfl (pi_tup (pv 2)) (pg_tup (by rfl) (pgs_cons (pg_name (i := 4) sc_leading.nd rfl (.inl rfl)) (pgs_cons (pg_name (i := 5) sc_leading.nd rfl (.inl rfl)) (pgs_cons (pg_name (i := 6) sc_leading.nd rfl (.inl rfl)) pgs_nil)))) (pss_one (ps_expr (pe_bm PySem.F.plainAttrs_list PySem.F.slot_list_append PySem.F.type_list_append mt_append (pe_ix ix_list (pv 3) (pv 4) (fun _ _ => rfl)) (pa_cons (pe_tup (pa_cons (pv 5) (pa_cons (pv 6) pa_nil))) pa_nil)))))
      (pss_one (ps_ret (pv 3)))))), ?_⟩
    refine ⟨_, rfl, na, _, rfl, SqT.of e1, rfl, _, _, rfl, _, _, rfl, rfl, ?_⟩
    refine ⟨_, rfl, (n : Int), rfl, by omega, by omega, fun D nD => ?_⟩
    rw [Int.toNat_natCast]
    refine lc_range (lo := 0) (n := n) (fun i H' => LdI H D i [] H') ⟨same_upd (Same.refl H) nD, [], upd_same, rfl, List.nodup_nil, by simp, nD, fun i b h => by simp at h⟩ (fun i H1 hi p => ⟨rfl, ?_⟩) (fun H1 p => ?_)
    · obtain ⟨k, ls, eD, ll, nd, nL, _, hb⟩ := p
      refine ⟨by show 0 ≤ sizeLine; decide, fun b nb => ?_⟩
      have nbH : H b = none := by
        cases e : H b with
        | none => rfl
        | some o => rw [k _ _ e] at nb; cases nb
      have nDb : D ≠ b := ne_of_none eD nb
      have eD2 : upd H1 b (.lst []) D = some (.lst (ls.map V.ref)) := by rw [upd_ne nDb]; exact eD
      have nbl : b ∉ ls := fun z => by
        obtain ⟨j, hj, e⟩ := List.mem_iff_getElem.mp z
        obtain ⟨_, vs, h1, _⟩ := hb j b (by rw [List.getElem?_eq_getElem hj, e])
        rw [nb] at h1; cases h1
      refine ⟨_, eD2, by rw [List.length_map]; exact szN (by omega), same_mut (same_upd k nb) nD, ls ++ [b], ?_, by rw [List.length_append, ll]; rfl, ?_, ?_, nD, ?_⟩
      · rw [upd_same, List.map_append]; rfl
      · exact List.nodup_append.mpr ⟨nd, by simp, fun x hx y hy => by rw [List.mem_singleton.mp hy]; exact fun z => nbl (z ▸ hx)⟩
      · intro z
        rcases List.mem_append.mp z with z | z
        · exact nL z
        · exact nDb (List.mem_singleton.mp z)
      · intro i2 b2 h2
        by_cases c : i2 < ls.length
        · rw [List.getElem?_append_left c] at h2
          obtain ⟨g1, vs, g2, g3⟩ := hb i2 b2 h2
          have n1 : b2 ≠ D := fun z => nL (z ▸ List.mem_of_getElem? h2)
          have n2 : b2 ≠ b := fun z => nbl (z ▸ List.mem_of_getElem? h2)
          refine ⟨g1, vs, by rw [upd_ne n1, upd_ne n2]; exact g2, ?_⟩
          have : vs = [] := List.eq_nil_of_length_eq_zero (by rw [g3.1]; rfl)
          rw [this]; exact LV.nil
        · rw [List.getElem?_append_right (by omega)] at h2
          have e0 : i2 - ls.length = 0 := by
            have := (List.getElem?_eq_some_iff.mp h2).1
            simp at this
            exact this
          rw [e0] at h2
          have h2 : b = b2 := Option.some.inj h2
          subst h2
          exact ⟨nbH, [], by rw [upd_ne nDb.symm, upd_same], LV.nil⟩
    · refine ⟨_, rfl, pa, rfl, ⟨us, SqT.of (p.1 _ _ e2)⟩, ?_⟩
      refine for_it (walk_tup (K := K) (a := pa) (xs := us)) (fun i σ' H' => LdI H D n (as.take i) H' ∧ ∃ (x4 x5 x6 : Option V), σ' = [some (.ref na), some (nV n), some (.ref pa), some (.ref D), x4, x5, x6, none]) ⟨p, none, none, none, rfl⟩ ?_ ?_ ?_
      · rintro i σ' H' _ ⟨pI, _⟩
        exact SqT.of (pI.1 _ _ e2)
      · rintro i x σ' H2 H3 hi ⟨⟨k, ls, eD, ll, nd, nL, nDH, hb⟩, x4, x5, x6, rfl⟩ ⟨rfl, hx⟩
        obtain ⟨r, hr2, c, rfl, ec⟩ := lv.at hx
        have hm := ok.2.2.2.1 r (List.mem_of_getElem? hr2)
        refine ⟨c, _, rfl, SqT.of (k _ _ ec), rfl, _, _, rfl, _, _, rfl, _, _, rfl, rfl, ?_⟩
        have ht : r.1 < ls.length := by omega
        have gt : ls[r.1]? = some ls[r.1] := List.getElem?_eq_getElem ht
        obtain ⟨bt, ebt⟩ : ∃ b, b = ls[r.1] := ⟨_, rfl⟩
        rw [← ebt] at gt
        obtain ⟨nbt, vs, g2, g3⟩ := hb _ _ gt
        refine ⟨_, rfl, _, rfl, D, _, _, _, rfl, rfl, SqL.of eD, atI_nat (v := V.ref bt) (by rw [List.getElem?_map, gt]; rfl), .inl ⟨rfl, _, .inl (.inl g2)⟩, ?_⟩
        refine ⟨_, rfl, _, rfl, by show 2 ≤ sizeLine; decide, fun p np => ?_⟩
        have k5 := same_upd (o := .tup [nV r.2.1, nV r.2.2]) (Same.refl H3) np
        have ep : upd H3 p (.tup [nV r.2.1, nV r.2.2]) p = some (.tup [nV r.2.1, nV r.2.2]) := upd_same
        generalize upd H3 p (.tup [nV r.2.1, nV r.2.2]) = H5 at k5 ep
        have le1 : vs.length ≤ as.length := by rw [g3.1]; exact Nat.le_trans (adj_len _ _) (by rw [List.length_take]; omega)
        refine ⟨bt, _, _, rfl, rfl, k5 _ _ g2, szN (by omega), ?_⟩
        have tupk : ∀ a xs, H5 a = some (.tup xs) → upd H5 bt (.lst (vs ++ [V.ref p])) a = some (.tup xs) := fun a xs e => by
          rw [upd_ne (fun z => by rw [z, k5 _ _ g2] at e; cases e)]; exact e
        refine ⟨⟨same_mut (k.trans k5) nbt, ls, by rw [upd_ne (fun (z : D = bt) => nL (by rw [z]; exact List.mem_of_getElem? gt))]; exact k5 _ _ eD, ll, nd, nL, nDH, fun i2 b2 h2 => ?_⟩, _, _, _, rfl⟩
        obtain ⟨m1, vs2, m2, m3⟩ := hb i2 b2 h2
        refine ⟨m1, ?_⟩
        rw [adj_take hr2]
        by_cases c2 : b2 = bt
        · subst c2
          have : i2 = r.1 := nd_inj nd h2 gt
          subst this
          rw [g2] at m2
          cases m2
          refine ⟨_, upd_same, ?_⟩
          rw [if_pos rfl]
          refine LV.snoc (m3.mono fun x r z => z.mono fun a xs e => tupk _ _ (k5 _ _ e)) ⟨p, rfl, tupk _ _ ep⟩
        · refine ⟨vs2, by rw [upd_ne c2]; exact k5 _ _ m2, ?_⟩
          have : ¬ r.1 = i2 := fun z => c2 (by rw [← z, gt] at h2; exact (Option.some.inj h2).symm)
          rw [if_neg this, List.append_nil]
          exact m3.mono fun x r z => z.mono fun a xs e => tupk _ _ (k5 _ _ e)
      · rintro σ' H2 ⟨pI, x4, x5, x6, rfl⟩
        rw [lv.1, List.take_length] at pI
        exact ⟨_, rfl, q _ _ pI.1 pI.lead⟩
end
end Vf

set_option Elab.async false
set_option linter.all false
set_option maxRecDepth 100000
set_option maxHeartbeats 4000000
namespace Vf
open PySem PySem.Spec PyProof.Rows L2 TL LamX
theorem hu1 {k : Nat} {A : Around} (r : Room k A) : A.units + 1 < cLine := by have := r.units; omega
theorem cut_last (xs : List V) : cutV xs none (some (-1)) = xs.take (xs.length - 1) := by
  unfold cutV
  have e1 : HT.sIx xs.length 0 none = 0 := rfl
  have e2 : HT.sIx xs.length xs.length (some (-1)) = xs.length - 1 := by
    unfold HT.sIx
    simp
    omega
  rw [e1, e2, List.drop_zero, Nat.sub_zero]
section
variable {P : Program} {w : World} {K : PySem.W.Frag} {mg : Str → Option Value} {base : Heap}
theorem gives_bt (T : Txt K mg) (k j : Nat) (q : Str) (cdv : Value) : GivesS P w K mg base k j ["places", "leads", "bounds", "tails", "tail", "head", "cost", "total"] "_bounds_and_tails" (defScope s_bounds_and_tails) T.a_bounds_and_tails cdv (defBody s_bounds_and_tails) q ttBt := by
  intro A outer s H f c' v0 Q tl hr Lv hc htt
  have hrZ : Room (k + 1) (A.deeper (envOfC "_bounds_and_tails" (defScope s_bounds_and_tails) s.heap.objs.size T.a_bounds_and_tails cdv)) := hr.mono (by omega)
  obtain ⟨a, n, as, rfl, ea, ok, hl, q⟩ := htt
  have hn := ok.1
  have n7 := ok.2.1
  have lA := ok.2.2.1
  refine ⟨_, (pss_cons (ps_set (i := 2) sc_bounds_and_tails.nd rfl (.inl rfl) (pe_disp (pps_cons (pe_ix ix_list (pv 0) pe_int (fun _ _ => rfl)) pe_int pps_nil) rfl rfl (by simp) (by decide)))
      (pss_cons (ps_set (i := 3) sc_bounds_and_tails.nd rfl (.inl rfl) pe_dnewK)
      (pss_cons (ps_for PassesOwn.never rfl (pi_list (pe_slice sl_list (pv 0) po_none (po_some (pe_un un_neg pe_int)))) (pg_name (i := 4) sc_bounds_and_tails.nd rfl (.inl rfl)) (pss_one (ps_if (pt_cmp (pc_din (hu1 hr) (pv 4) (pv 2))) (pss_one (ps_for PassesOwn.never rfl (pi_list (pe_actS (i := 1) (c' := c') Lv hrZ rfl (Or.inl rfl) (pa_cons (pv 4) pa_nil))) (pg_tup (by rfl) (pgs_cons (pg_name (i := 5) sc_bounds_and_tails.nd rfl (.inl rfl)) (pgs_cons (pg_name (i := 6) sc_bounds_and_tails.nd rfl (.inl rfl)) pgs_nil))) (pss_cons (ps_set (i := 7) sc_bounds_and_tails.nd rfl (.inl rfl) (pe_op op_add (pe_dget (hu1 hr) (pv 2) (pv 4) (fun _ _ => rfl)) (pv 6)))
      (pss_one (ps_if (PW.pt (pw_or (pt_cmp (pc_dnotin (hu1 hr) (pv 5) (pv 2))) (pw_or1 (pt_cmpR op_lt (pv 7) (pe_dget (hu1 hr) (pv 2) (pv 5) (fun _ _ => rfl)) (nomark _))))) (pss_cons (ps_dput (hu1 hr) (pv 2) (pv 5) (pv 7) rfl)
      (pss_one (ps_dput (hu1 hr) (pv 3) (pv 5) (pv 4) rfl))) pss_nil))))) pss_nil)))
      (pss_one (ps_ret (pe_tup (pa_cons (pv 2) (pa_cons (pv 3) pa_nil)))))))), ?_⟩
  refine fun D1 nD1 => ?_
  have k1 := same_upd (o := .dK []) (Same.refl H) nD1
  refine ⟨_, rfl, a, _, _, _, rfl, rfl, SqL.of (k1 _ _ ea), atI_nat (j := 0) (by rw [List.getElem?_map, List.getElem?_range (by omega)]; rfl), ?_⟩
  refine ⟨upd_same, [(Sum.inl ((0 : Nat) : Int), nV 0)], rfl, (show 1 ≤ 15 by decide), ?_⟩
  have b1 : BdV (upd (upd H D1 (.dK [])) D1 (.dK (mergeK [] [(Sum.inl ((0 : Nat) : Int), nV 0)]))) D1 1 (fset (fun _ => none) 0 0) := ⟨_, upd_same, Nat.le_refl 1, fun j => by
    show valV (putK [] (Sum.inl ((0 : Nat) : Int)) (nV 0)) _ = _
    rw [valV_put]
    by_cases c : j = 0
    · subst c; rw [if_pos rfl, fset_same]; rfl
    · rw [if_neg (fun (z : (Sum.inl ((j : Nat) : Int) : Key) = Sum.inl ((0 : Nat) : Int)) => c (Int.ofNat.inj (Sum.inl.inj z))), fset_ne c]; rfl⟩
  have k2 := same_mut (o := .dK (mergeK [] [(Sum.inl ((0 : Nat) : Int), nV 0)])) k1 nD1
  generalize upd (upd H D1 (.dK [])) D1 (.dK (mergeK [] [(Sum.inl ((0 : Nat) : Int), nV 0)])) = H2 at b1 k2
  refine fun D2 nD2 => ?_
  have nD2H : H D2 = none := by
    cases e : H D2 with
    | none => rfl
    | some o => rw [k2 _ _ e] at nD2; cases nD2
  have nDD : D1 ≠ D2 := by
    obtain ⟨kvs, h1, _⟩ := b1
    exact ne_of_none h1 nD2
  have k3 := same_upd (o := .dK []) k2 nD2
  have b2 : BdV (upd H2 D2 (.dK [])) D1 1 (fset (fun _ => none) 0 0) := b1.keep fun o e => by rw [upd_ne nDD]; exact e
  have t2 : BdV (upd H2 D2 (.dK [])) D2 0 (fun _ => none) := ⟨[], upd_same, Nat.le_refl 0, fun _ => rfl⟩
  generalize upd H2 D2 (.dK []) = H3 at k3 b2 t2
  refine ⟨_, rfl, 1, rfl, _, rfl, a, _, rfl, SqL.of (k3 _ _ ea), fun C nC => ?_⟩
  have nCH : H C = none := by
    cases e : H C with
    | none => rfl
    | some o => rw [k3 _ _ e] at nC; cases nC
  have k4 := same_upd (o := .lst (cutV ((List.range n).map nV) none (some (-1)))) k3 nC
  have eC : upd H3 C (.lst (cutV ((List.range n).map nV) none (some (-1)))) C = some (.lst ((List.range (n - 1)).map nV)) := by
    rw [upd_same, cut_last, List.length_map, List.length_range, ← List.map_take, List.take_range, show min (n - 1) n = n - 1 by omega]
  have nD1C : D1 ≠ C := by
    obtain ⟨kvs, h1, _⟩ := b2
    exact ne_of_none h1 nC
  have nD2C : D2 ≠ C := by
    obtain ⟨kvs, h1, _⟩ := t2
    exact ne_of_none h1 nC
  have b4 := b2.keep (H' := upd H3 C (.lst (cutV ((List.range n).map nV) none (some (-1))))) fun o e => by rw [upd_ne nD1C]; exact e
  have t4 := t2.keep (H' := upd H3 C (.lst (cutV ((List.range n).map nV) none (some (-1))))) fun o e => by rw [upd_ne nD2C]; exact e
  generalize upd H3 C (.lst (cutV ((List.range n).map nV) none (some (-1)))) = H4 at k4 eC b4 t4
  have len1 : ((List.range (n - 1)).map nV).length = n - 1 := by rw [List.length_map, List.length_range]
  refine ⟨C, rfl, ⟨_, SqL.of eC⟩, ?_⟩
  refine for_it (walk_list (K := K) (a := C) (xs := (List.range (n - 1)).map nV)) (fun i σ' H' => ∃ (f1 g1 : Nat → Option Nat) (x4 x5 x6 x7 : Option V), σ' = [some (.ref a), some (.ref f), some (.ref D1), some (.ref D2), x4, x5, x6, x7] ∧ Same H H' ∧ H' C = some (.lst ((List.range (n - 1)).map nV)) ∧ BdV H' D1 (1 + 1000 * i) f1 ∧ BdV H' D2 (1000 * i) g1 ∧ Bd (fun r => r ∈ as ∧ r.1 < i) f1 g1) ⟨_, _, none, none, none, none, rfl, k4, eC, b4, t4, Bd.start.congr fun r => ⟨fun z => by omega, fun z => z.elim⟩⟩ ?_ ?_ ?_
  · rintro i σ' H' _ ⟨_, _, _, _, _, _, _, _, e, _⟩
    exact SqL.of e
  · rintro i x σ' H5 H6 hi ⟨f1, g1, x4, x5, x6, x7, rfl, k5, eC5, b5, t5, B⟩ ⟨rfl, hx⟩
    rw [len1] at hi
    rw [List.getElem?_map, List.getElem?_range (by omega)] at hx
    have hx : nV i = x := Option.some.inj hx
    subst hx
    have hn5 : (fun r : Arc => r ∈ as ∧ r.1 < i + 1) = fun r => (r ∈ as ∧ r.1 < i) ∨ (r ∈ as ∧ r.1 = i) := by
      funext r
      apply propext
      constructor
      · rintro ⟨h1, h2⟩
        by_cases c : r.1 < i
        · exact .inl ⟨h1, c⟩
        · exact .inr ⟨h1, by omega⟩
      · rintro (⟨h1, h2⟩ | ⟨h1, h2⟩)
        · exact ⟨h1, by omega⟩
        · exact ⟨h1, by omega⟩
    refine ⟨_, rfl, _, rfl, D1, _, rfl, b5.get i, ?_⟩
    cases hf : f1 i with
    | none =>
      refine ⟨false, rfl, f1, g1, _, _, _, _, rfl, k5, eC5, b5.keep' (by omega), t5.keep' (by omega), ?_⟩
      rw [hn5]
      exact B.none_ fun r hr => by rw [hr.2]; exact hf
    | some x =>
      refine ⟨true, rfl, ?_⟩
      refine ⟨rfl, _, rfl, _, rfl, k5 _ _ hc, hl i _ _ (by omega) k5 fun b vs eb nb lvb => ?_⟩
      have nbC : b ≠ C := fun z => nb (by rw [z]; exact nCH)
      have nb1 : b ≠ D1 := fun z => nb (by rw [z]; exact nD1)
      have nb2 : b ≠ D2 := fun z => nb (by rw [z]; exact nD2H)
      refine ⟨b, rfl, ⟨_, SqL.of eb⟩, ?_⟩
      have lad : (adj as i).length ≤ as.length := adj_len as i
      refine for_it (walk_list (K := K) (a := b) (xs := vs)) (fun m σ' H' => ∃ (f2 g2 : Nat → Option Nat) (x5 x6 x7 : Option V), σ' = [some (.ref a), some (.ref f), some (.ref D1), some (.ref D2), some (nV i), x5, x6, x7] ∧ Same H H' ∧ H' C = some (.lst ((List.range (n - 1)).map nV)) ∧ BdV H' D1 (1 + 1000 * i + m) f2 ∧ BdV H' D2 (1000 * i + m) g2 ∧ f2 i = some x ∧ Bd (fun r => (r ∈ as ∧ r.1 < i) ∨ (r.1 = i ∧ r.2 ∈ (adj as i).take m)) f2 g2 ∧ (∀ (a : Addr) xs, H6 a = some (.tup xs) → H' a = some (.tup xs)) ∧ H' b = some (.lst vs)) ⟨f1, g1, x5, x6, x7, rfl, k5, eC5, b5, t5, hf, B.congr (fun r => by simp), fun _ _ e => e, eb⟩ ?_ ?_ ?_
      · rintro m σ' H' _ ⟨_, _, _, _, _, _, _, _, _, _, _, _, _, e⟩
        exact SqL.of e
      · rintro m y σ' H7 H8 hm ⟨f2, g2, x5, x6, x7, rfl, k7, eC7, b7, t7, ff, B7, kt, eb7⟩ ⟨rfl, hy⟩
        obtain ⟨r, hr2, c, rfl, ec⟩ := lvb.at hy
        have hmem : (i, r) ∈ as := adj_mem.mp (List.mem_of_getElem? hr2)
        have hup := ok.2.2.2.1 _ hmem
        have hup : i < r.1 ∧ r.1 < n := hup
        have hm2 : m < (adj as i).length := (List.getElem?_eq_some_iff.mp hr2).1
        have hpr : ∀ r', ((r' ∈ as ∧ r'.1 < i) ∨ (r'.1 = i ∧ r'.2 ∈ (adj as i).take m)) → r'.1 ≤ i := fun r' h => by
          rcases h with h | h <;> omega
        have hnx : (fun r' : Arc => (r' ∈ as ∧ r'.1 < i) ∨ (r'.1 = i ∧ r'.2 ∈ (adj as i).take (m + 1))) = fun r' => ((r' ∈ as ∧ r'.1 < i) ∨ (r'.1 = i ∧ r'.2 ∈ (adj as i).take m)) ∨ r' = (i, r.1, r.2) := by
          funext r'
          apply propext
          rw [show (adj as i).take (m + 1) = (adj as i).take m ++ [r] by rw [List.take_succ, hr2]; rfl, List.mem_append, List.mem_singleton]
          constructor
          · rintro (h | ⟨h1, h2 | h2⟩)
            · exact .inl (.inl h)
            · exact .inl (.inr ⟨h1, h2⟩)
            · exact .inr (by rw [← h1, ← h2])
          · rintro ((h | ⟨h1, h2⟩) | h)
            · exact .inl h
            · exact .inr ⟨h1, .inl h2⟩
            · exact .inr ⟨by rw [h], .inr (by rw [h])⟩
        refine ⟨c, _, rfl, SqT.of (kt _ _ ec), rfl, _, _, rfl, _, _, rfl, rfl, ?_⟩
        have gi := b7.get i
        rw [ff] at gi
        refine ⟨_, rfl, _, rfl, D1, _, rfl, gi, _, rfl, _, _, rfl, rfl, ?_⟩
        have gh := b7.get r.1
        refine ⟨_, rfl, _, rfl, D1, _, rfl, gh, ?_⟩
        have put : (∀ y, f2 r.1 = some y → x + r.2 < y) → ∃ H9 H10, DPut H8 D1 (nV r.1) (nV (x + r.2)) H9 ∧ DPut H9 D2 (nV r.1) (nV i) H10 ∧ ∃ f3 g3, Same H H10 ∧ H10 C = some (.lst ((List.range (n - 1)).map nV)) ∧ BdV H10 D1 (1 + 1000 * i + (m + 1)) f3 ∧ BdV H10 D2 (1000 * i + (m + 1)) g3 ∧ f3 i = some x ∧ Bd (fun r => (r ∈ as ∧ r.1 < i) ∨ (r.1 = i ∧ r.2 ∈ (adj as i).take (m + 1))) f3 g3 ∧ (∀ (a : Addr) xs, H6 a = some (.tup xs) → H10 a = some (.tup xs)) ∧ H10 b = some (.lst vs) := fun lo => by
          obtain ⟨H9, p1, b9, o9, e9⟩ := b7.put (by omega) r.1 (x + r.2)
          have t9 : BdV H9 D2 (1000 * i + m) g2 := t7.keep fun o e => by rw [e9, upd_ne nDD.symm]; exact e
          obtain ⟨H10, p2, t10, o10, e10⟩ := t9.put (by omega) r.1 i
          have b10 : BdV H10 D1 (1 + 1000 * i + m + 1) (fset f2 r.1 (x + r.2)) := b9.keep fun o e => by rw [e10, upd_ne nDD]; exact e
          refine ⟨H9, H10, p1, p2, _, _, ?_, ?_, b10, t10, by rw [fset_ne (by omega)]; exact ff, ?_, fun a xs e => ?_, ?_⟩
          · rw [e10, e9]; exact same_mut (same_mut k7 nD1) nD2H
          · rw [e10, e9, upd_ne nD2C.symm, upd_ne nD1C.symm]; exact eC7
          · rw [hnx]; exact B7.put hpr hup.1 ff lo
          · have e2 := kt _ _ e
            obtain ⟨_, q1, _⟩ := b7
            obtain ⟨_, q2, _⟩ := t7
            rw [e10, e9, upd_ne (fun z => by rw [z, q2] at e2; cases e2), upd_ne (fun z => by rw [z, q1] at e2; cases e2)]; exact e2
          · rw [e10, e9, upd_ne nb2, upd_ne nb1]; exact eb7
        cases hh : f2 r.1 with
        | none =>
          rw [hh] at gh
          obtain ⟨H9, H10, p1, p2, f3, g3, r1, r2, r3, r4, r5, r6, r7, r8⟩ := put fun y h => by rw [hh] at h; cases h
          refine ⟨true, rfl, ?_⟩
          refine ⟨_, rfl, _, rfl, _, rfl, D1, H9, rfl, p1, ?_⟩
          refine ⟨_, rfl, _, rfl, _, rfl, D2, H10, rfl, p2, ?_⟩
          exact ⟨f3, g3, _, _, _, rfl, r1, r2, r3, r4, r5, r6, r7, r8⟩
        | some y =>
          have gh2 := gh
          rw [hh] at gh2
          rw [hh] at gh
          refine ⟨false, rfl, ?_⟩
          refine ⟨_, rfl, _, rfl, _, rfl, D1, _, rfl, gh2, _, _, rfl, rfl, ?_⟩
          by_cases lt : x + r.2 < y
          · obtain ⟨H9, H10, p1, p2, f3, g3, r1, r2, r3, r4, r5, r6, r7, r8⟩ := put fun y' h => by rw [hh] at h; have := Option.some.inj h; omega
            refine ⟨true, bTr (by omega), ?_⟩
            refine ⟨_, rfl, _, rfl, _, rfl, D1, H9, rfl, p1, ?_⟩
            refine ⟨_, rfl, _, rfl, _, rfl, D2, H10, rfl, p2, ?_⟩
            exact ⟨f3, g3, _, _, _, rfl, r1, r2, r3, r4, r5, r6, r7, r8⟩
          · refine ⟨false, bFa (by omega), ?_⟩
            refine ⟨f2, g2, _, _, _, rfl, k7, eC7, b7.keep' (by omega), t7.keep' (by omega), ff, ?_, kt, eb7⟩
            rw [hnx]; exact B7.skip hpr hup.1 ff hh (by omega)
      · rintro σ' H7 ⟨f2, g2, x5, x6, x7, rfl, k7, eC7, b7, t7, ff, B7, kt, eb7⟩
        have em : vs.length = (adj as i).length := lvb.1
        refine ⟨f2, g2, _, _, _, _, rfl, k7, eC7, b7.keep' (by omega), t7.keep' (by omega), ?_⟩
        rw [hn5]
        refine B7.congr fun r => ?_
        rw [em, List.take_length, adj_mem]
        constructor
        · rintro (h | ⟨h1, h2⟩)
          · exact .inl h
          · exact .inr ⟨h2, by rw [← h2]; exact h1⟩
        · rintro (h | ⟨h1, h2⟩)
          · exact .inl h
          · exact .inr ⟨by rw [← h1] at h2; exact h2, h1⟩
  · rintro σ' H5 ⟨f1, g1, x4, x5, x6, x7, rfl, k5, eC5, b5, t5, B⟩
    rw [len1] at B
    refine ⟨_, rfl, _, rfl, by show 2 ≤ sizeLine; decide, fun R nR => ?_⟩
    have nD1R : D1 ≠ R := by
      obtain ⟨kvs, h1, _⟩ := b5
      exact ne_of_none h1 nR
    have nD2R : D2 ≠ R := by
      obtain ⟨kvs, h1, _⟩ := t5
      exact ne_of_none h1 nR
    exact q (upd H5 R (.tup [.ref D1, .ref D2])) R D1 D2 f1 g1 (1 + 1000 * ((List.range (n - 1)).map nV).length) (same_upd k5 nR) upd_same (b5.keep fun o e => by rw [upd_ne nD1R]; exact e) ((t5.keep' (by omega)).keep fun o e => by rw [upd_ne nD2R]; exact e) (B.congr fun r => ⟨fun h => ⟨h, by have := ok.2.2.2.1 r h; omega⟩, fun h => h.1⟩)
end
end Vf

set_option Elab.async false
set_option linter.all false
set_option maxRecDepth 100000
set_option maxHeartbeats 4000000
namespace Vf
open PySem PySem.Spec PyProof.Rows L2 TL LamX
theorem rgV_nats (n : Nat) : rgV 0 (n : Int) = (List.range n).map nV := by
  unfold rgV
  rw [Int.sub_zero, Int.toNat_natCast]
  refine List.map_congr_left fun i _ => ?_
  show V.int (0 + (i : Int)) = _
  rw [Int.zero_add]; rfl
abbrev lamQ : Str := (envOfC "least_way" (defScope s_least_way) 0 0 .none).qual ++ "<lambda>"
/-- a total and its way, or none -/
def LwV (H : Hp) (v : V) (f g : Nat → Option Nat) (m : Nat) : Prop := match f m with
  | none => v = .non
  | some y => ∃ B p, v = .ref B ∧ H B = some (.tup [nV y, .ref p]) ∧ H p = some (.tup ((Rw g m).reverse.map nV))
def ttLw (tl : V → Hp → VK → Prop) (v0 : V) (H : Hp) (Q : VK) : Prop := ∃ (a : Addr) (n : Nat) (as : List Arc), v0 = .ref a ∧ H a = some (.lst ((List.range n).map nV)) ∧ NetOk n as ∧
  (∀ (i : Nat) (H' : Hp) (Q' : VK), i < n → Same H H' → (∀ b vs, H' b = some (.lst vs) → H b ≠ none → LV (PairV H') vs (adj as i) → Q' (.ref b) H') → tl (nV i) H' Q') ∧
  ∀ (H' : Hp) (v : V) (f g : Nat → Option Nat), Same H H' → Bd (· ∈ as) f g → LwV H' v f g (n - 1) → Q v H'
theorem at_last {xs : List V} {x : V} {n : Nat} (hl : xs.length = n + 1) (e : xs[n]? = some x) : atI xs (-1) = some x := by
  have e2 : xs = xs.take n ++ [x] := by
    have h3 := List.take_append_drop n xs
    have h4 : xs.drop n = [x] := by
      rw [List.drop_eq_getElem_cons (by omega)]
      have h5 := List.getElem?_eq_some_iff.mp e
      rw [h5.2, List.drop_eq_nil_of_le (by omega)]
    rw [h4] at h3
    exact h3.symm
  rw [e2]
  exact atI_last _ _
section
variable {P : Program} {w : World} {K : PySem.W.Frag} {mg : Str → Option Value} {base : Heap}
theorem gives_lw (T : Txt K mg) (q : Str) (cdv : Value) : GivesS P w K mg base 0 1 ["places", "leads", "bounds", "tails", "way"] "least_way_along" (defScope s_least_way_along) T.a_least_way_along cdv (defBody s_least_way_along) q ttLw := by
  intro A outer s H f c' v0 Q tl hr Lv hc htt
  obtain ⟨oc2, od2, kV2, doc2, pm2, an2, cdv2, ct2, osl2, efd2, lk2, hcd2⟩ := T.D_bounds_and_tails.F.ex
  have hb2 := T.D_bounds_and_tails.B
  rw [efd2] at lk2 hb2
  obtain ⟨a, n, as, rfl, ea, ok, hl, q⟩ := htt
  have hn := ok.1
  have n7 := ok.2.1
  have up : ∀ a ∈ as, a.1 < a.2.1 := fun a h => (ok.2.2.2.1 a h).1
  refine ⟨_, (pss_cons (ps_asg (pe_passS (i := 1) (k := 0) (j := 0) (c' := c') (TT := ttBt) Lv (hr.mono (by decide)) (by rfl) T.D_bounds_and_tails.G T.D_bounds_and_tails.F.kp lk2 hcd2 hb2 sc_bounds_and_tails (gives_bt T 0 0 _ _) (pv 0) rfl (Or.inl rfl)) (pg_tup (by rfl) (pgs_cons (pg_name (i := 2) sc_least_way_along.nd rfl (.inl rfl)) (pgs_cons (pg_name (i := 3) sc_least_way_along.nd rfl (.inl rfl)) pgs_nil))))
      (pss_cons (ps_if (pt_cmp (pc_dnotin (hu1 hr) (pe_ix ix_list (pv 0) (pe_un un_neg pe_int) (fun _ _ => rfl)) (pv 2))) (pss_one (ps_ret pe_non)) pss_nil)
      (pss_cons (ps_set (i := 4) sc_least_way_along.nd rfl (.inl rfl) (pe_lst (pa_cons (pe_ix ix_list (pv 0) (pe_un un_neg pe_int) (fun _ _ => rfl)) pa_nil)))
      (pss_cons (ps_while PassesOwn.never (pt_cmp (pc_din (hu1 hr) (pe_ix ix_list (pv 4) (pe_un un_neg pe_int) (fun _ _ => rfl)) (pv 3))) (pss_one (ps_expr (pe_bm PySem.F.plainAttrs_list PySem.F.slot_list_append PySem.F.type_list_append mt_append (pv 4) (pa_cons (pe_dget (hu1 hr) (pv 3) (pe_ix ix_list (pv 4) (pe_un un_neg pe_int) (fun _ _ => rfl)) (fun _ _ => rfl)) pa_nil)))))
      (pss_one (ps_ret (pe_tup (pa_cons (pe_dget (hu1 hr) (pv 2) (pe_ix ix_list (pv 0) (pe_un un_neg pe_int) (fun _ _ => rfl)) (fun _ _ => rfl)) (pa_cons (pe_callTy call_tuple_of (by rfl) T.n_tuple (by decide +kernel) (pa_cons (pe_revL (pv 4)) pa_nil)) pa_nil))))))))), ?_⟩
  refine ⟨_, rfl, rfl, hc, a, n, as, rfl, ea, ok, hl, fun H1 B D1 D2 f1 g1 N k1 eB b1 t1 bd => ?_⟩
  refine ⟨B, _, rfl, SqT.of eB, rfl, _, _, rfl, _, _, rfl, rfl, ?_⟩
  have la : ((List.range n).map nV).length = (n - 1) + 1 := by rw [List.length_map, List.length_range]; omega
  have ga : atI ((List.range n).map nV) (-1) = some (nV (n - 1)) := at_last la (by rw [List.getElem?_map, List.getElem?_range (by omega)]; rfl)
  have ea1 := k1 _ _ ea
  have gb := b1.get (n - 1)
  have dn := bd.dn up
  refine ⟨_, rfl, 1, rfl, a, _, -1, _, rfl, rfl, SqL.of ea1, ga, _, rfl, D1, _, rfl, gb, ?_⟩
  cases hf : f1 (n - 1) with
  | none => exact ⟨true, rfl, q H1 .non f1 g1 k1 bd (by unfold LwV; rw [hf])⟩
  | some y =>
    refine ⟨false, rfl, ?_⟩
    refine ⟨_, rfl, 1, rfl, a, _, -1, _, rfl, rfl, SqL.of ea1, ga, by show 1 ≤ sizeLine; decide, fun W nW => ?_⟩
    have k2 := same_upd (o := .lst [nV (n - 1)]) k1 nW
    have nWH := Same.free k1 nW
    have eW : upd H1 W (.lst [nV (n - 1)]) W = some (.lst ((([] : List Nat) ++ [n - 1]).map nV)) := upd_same
    have nD1 : D1 ≠ W := by
      obtain ⟨kvs, h1, _⟩ := b1
      exact ne_of_none h1 nW
    have nD2 : D2 ≠ W := by
      obtain ⟨kvs, h1, _⟩ := t1
      exact ne_of_none h1 nW
    have b2 : BdV (upd H1 W (.lst [nV (n - 1)])) D1 N f1 := b1.keep fun o e => by rw [upd_ne nD1]; exact e
    have t2 : BdV (upd H1 W (.lst [nV (n - 1)])) D2 N g1 := t1.keep fun o e => by rw [upd_ne nD2]; exact e
    generalize upd H1 W (.lst [nV (n - 1)]) = H2 at k2 eW b2 t2
    refine ⟨fun m σ H' => ∃ (pre : List Nat) (u : Nat), m = u ∧ σ = [some (.ref a), some (.ref f), some (.ref D1), some (.ref D2), some (.ref W)] ∧ Same H H' ∧ BdV H' D1 N f1 ∧ BdV H' D2 N g1 ∧ H' W = some (.lst ((pre ++ [u]).map nV)) ∧ Rw g1 (n - 1) = pre ++ Rw g1 u ∧ pre.length + u ≤ n, ⟨_, [], n - 1, rfl, rfl, k2, b2, t2, eW, rfl, by show 0 + (n - 1) ≤ n; omega⟩, fun m σ H3 hW => ?_⟩
    obtain ⟨pre, u, rfl, rfl, k3, b3, t3, eW3, hR, hlen⟩ := hW
    have gw : atI ((pre ++ [m]).map nV) (-1) = some (nV m) := by rw [List.map_append]; exact atI_last _ _
    have gt := t3.get m
    refine ⟨_, rfl, 1, rfl, W, _, -1, _, rfl, rfl, SqL.of eW3, gw, _, rfl, D2, _, rfl, gt, ?_⟩
    cases hg : g1 m with
    | none =>
      refine ⟨false, rfl, ?_⟩
      rw [Rw_none hg] at hR
      have gb3 := b3.get (n - 1)
      rw [hf] at gb3
      refine ⟨_, rfl, _, rfl, 1, rfl, a, _, -1, _, rfl, rfl, SqL.of (k3 _ _ ea), ga, D1, _, rfl, gb3, ?_⟩
      refine ⟨_, rfl, W, _, rfl, SqL.of eW3, fun R nR => ?_⟩
      have k4 := same_upd (o := .lst ((pre ++ [m]).map nV).reverse) k3 nR
      have eR : upd H3 R (.lst ((pre ++ [m]).map nV).reverse) R = some (.lst ((Rw g1 (n - 1)).reverse.map nV)) := by rw [upd_same, hR, List.map_reverse]
      generalize upd H3 R (.lst ((pre ++ [m]).map nV).reverse) = H4 at k4 eR
      refine ⟨R, _, rfl, .inl ⟨SqL.of eR, fun p np => ?_⟩⟩
      have k5 := same_upd (o := .tup ((Rw g1 (n - 1)).reverse.map nV)) k4 np
      have ep : upd H4 p (.tup ((Rw g1 (n - 1)).reverse.map nV)) p = some (.tup ((Rw g1 (n - 1)).reverse.map nV)) := upd_same
      generalize upd H4 p (.tup ((Rw g1 (n - 1)).reverse.map nV)) = H5 at k5 ep
      refine ⟨by show 2 ≤ sizeLine; decide, fun C nC => ?_⟩
      refine q _ (.ref C) f1 g1 (same_upd k5 nC) bd ?_
      unfold LwV
      rw [hf]
      exact ⟨C, p, rfl, upd_same, by rw [upd_ne (ne_of_none ep nC)]; exact ep⟩
    | some u =>
      rw [hg] at gt
      have hu := dn m u hg
      refine ⟨true, rfl, ?_⟩
      refine ⟨fun σ H' => ∃ (pre : List Nat) (u : Nat), u < m ∧ σ = [some (.ref a), some (.ref f), some (.ref D1), some (.ref D2), some (.ref W)] ∧ Same H H' ∧ BdV H' D1 N f1 ∧ BdV H' D2 N g1 ∧ H' W = some (.lst ((pre ++ [u]).map nV)) ∧ Rw g1 (n - 1) = pre ++ Rw g1 u ∧ pre.length + u ≤ n, fun σ' H' hN => ?_, ?_⟩
      · obtain ⟨pre', u', l1, r⟩ := hN
        exact ⟨u', l1, pre', u', rfl, r⟩
      refine ⟨.ref W, rfl, .inl ⟨rfl, _, .inl (.inl eW3)⟩, _, rfl, _, rfl, 1, rfl, W, _, -1, _, rfl, rfl, SqL.of eW3, gw, D2, _, rfl, gt, ?_⟩
      refine ⟨W, _, _, rfl, rfl, eW3, by rw [List.length_map, List.length_append]; show pre.length + 1 < _; exact szN (by omega), ?_⟩
      refine ⟨pre ++ [m], u, hu, rfl, same_mut k3 nWH, b3.keep fun o e => by rw [upd_ne nD1]; exact e, t3.keep fun o e => by rw [upd_ne nD2]; exact e, ?_, ?_, by rw [List.length_append]; show pre.length + 1 + u ≤ n; omega⟩
      · rw [upd_same, List.map_append (l₁ := pre ++ [m])]; rfl
      · rw [hR, Rw_some dn hg, List.append_assoc]; rfl
def spLeast (Pt : Addr) : Sp := fun vs H Q _ => ∃ (v : V) (n : Nat) (as : List Arc), vs = [v] ∧ NetV H v n as ∧ NetOk n as ∧ Tabs [(Pt, lamQ)] H ∧
  ∀ (H' : Hp) (v : V) (f g : Nat → Option Nat), ExtN H H' → Tabs [(Pt, lamQ)] H' → Bd (· ∈ as) f g → LwV H' v f g (n - 1) → Q v H'
theorem ok_least_way (T : Txt K mg) {c Pt : Addr} (hcode : T.d_least_way.code = .ref c) (TB : TabB base mg c Pt) : FnOk P w K mg base CX0 4 T.a_least_way T.d_least_way ["net"] (spLeast Pt) := by
  have G_leading : FnOk P w K mg base CX0 1 T.a_leading T.d_leading ["net"] spLeading := ok_leading T
  obtain ⟨oc, od, kV, doc, pm, an, cdv, ct, osl, efd, lk, hcd⟩ := T.D_least_way.F.ex
  obtain ⟨oc2, od2, kV2, doc2, pm2, an2, cdv2, ct2, osl2, efd2, lk2, hcd2⟩ := T.D_least_way_along.F.ex
  have hb2 := T.D_least_way_along.B
  rw [efd2] at lk2 hb2
  rw [efd] at lk hcode
  rw [efd]
  have hcdv : cdv = .ref c := hcode
  subst hcdv
  refine fn_of lk hcd sc_least_way (fun vs H Q E h => ?_) (fun A outer s H vs Q E hr h => ?_)
  · obtain ⟨v, n, as, rfl, _⟩ := h
    rfl
  · obtain ⟨v, n, as, rfl, nv, ok, hT, q⟩ := h
    suffices h : ∃ t, PSs (cxOf CX0 P w K mg base ["net", "leading", "node"] "least_way" (defScope s_least_way) T.a_least_way (.ref c) A outer s H E).nox (defBody s_least_way) t ∧ t { nx := fun _ H' => Q .non H', rt := Q } (L2.start ["net", "leading", "node"] [v]) H by
      obtain ⟨t, h1, h2⟩ := h
      exact ⟨t, h1.nox, h2⟩
    refine ⟨_, (pss_cons (ps_set (i := 1) sc_least_way.nd rfl (.inr rfl) (pe_call G_leading (hr.mono (by decide)) (by rfl) T.D_leading.G T.D_leading.F.kp T.D_leading.B .nil pass0 (pa_cons (pv 0) pa_nil)))
      (pss_one (ps_ret (pe_lamcallS (k := 0) (j := 1) (ip := 2) (T := [(Pt, lamQ)]) (TT := ttLw) (by rfl) T.D_least_way_along.G T.D_least_way_along.F.kp lk2 hcd2 hb2 sc_least_way_along (gives_lw T _ _) (pe_listRg (by rfl) (by rfl) T.n_list (prg_1 (by rfl) T.n_range (pe_ix ix_tup (pv 0) pe_int (fun _ _ => rfl)))) TB rfl (List.mem_singleton.mpr rfl) (fun p hp _ => by rw [List.mem_singleton.mp hp]; rfl) (hr.mono (by decide)) (lamP_by (sc := defScope s_least_way) (N := ["net", "leading", "node"]) (p := "node") (by decide +kernel)) rfl (fun _ _ _ _ _ _ => rfl) (fun A outer s H f c' hr2 => pe_ix (r := rIxL K) ix_list (pv 1) (pv 2) (fun _ _ => rfl)))))), ?_⟩
    have hn := ok.1
    have n7 := ok.2.1
    refine ⟨_, rfl, v, n, as, rfl, nv, ok, fun H1 L k1 ld => ?_⟩
    obtain ⟨na, pa, us, rfl, e1, e2, lv⟩ := id nv
    refine ⟨_, rfl, na, _, 0, _, rfl, rfl, SqT.of (k1 _ _ e1), rfl, (n : Int), rfl, ⟨by omega, by omega, by omega, by omega⟩, fun N1 nN => ?_⟩
    have k2 := same_upd (o := .lst (rgV 0 (n : Int))) k1 nN
    have eN : upd H1 N1 (.lst (rgV 0 (n : Int))) N1 = some (.lst ((List.range n).map nV)) := by rw [upd_same, rgV_nats]
    have ld2 : LeadV (upd H1 N1 (.lst (rgV 0 (n : Int)))) L n as := by
      have k := same_upd (o := .lst (rgV 0 (n : Int))) (Same.refl H1) nN
      obtain ⟨ls, g1, g2, g3⟩ := ld
      refine ⟨ls, k _ _ g1, g2, fun i hi => ?_⟩
      obtain ⟨b, vs, m1, m2, m3⟩ := g3 i hi
      exact ⟨b, vs, m1, k _ _ m2, m3.mono fun x r z => z.mono fun a xs e => k _ _ e⟩
    generalize upd H1 N1 (.lst (rgV 0 (n : Int))) = H2 at k2 eN ld2
    obtain ⟨ls, g1, g2, g3⟩ := ld2
    refine ⟨hT.ext k2, fun H3 x3 T3 => ?_⟩
    have nt : ∀ (a : Addr) o, H2 a = some o → (∀ ps, o ≠ .tbl ps) → H3 a = some o := x3
    refine ⟨N1, n, as, rfl, nt _ _ eN (fun _ z => by cases z), ok, fun i H' Q' hi k' hq => ?_, fun H4 v f g k4 bd lw => q H4 v f g ((ExtN.of k2).trans (x3.trans (ExtN.of k4))) (T3.ext k4) bd lw⟩
    obtain ⟨b, vs, m1, m2, m3⟩ := g3 i hi
    have m4 := nt _ _ m2 (fun _ z => by cases z)
    refine ⟨_, rfl, _, rfl, L, _, _, _, rfl, rfl, SqL.of (k' _ _ (nt _ _ g1 (fun _ z => by cases z))), atI_nat m1, ?_⟩
    exact hq b vs (k' _ _ m4) (by rw [m4]; exact fun z => by cases z) (m3.mono fun x r z => z.mono fun a xs e => k' _ _ (nt _ _ e (fun _ z => by cases z)))
end
end Vf

set_option Elab.async false
set_option linter.all false
set_option maxRecDepth 100000
set_option maxHeartbeats 4000000
namespace Vf
open PySem PySem.Spec PyProof.Rows L2 TL
/-- a dict of pairs of numbers -/
def CsV (H : Hp) (D : Addr) (N : Nat) (g : Nat → Nat → Option Nat) : Prop := ∃ kvs : List (List Key × V), H D = some (.dT kvs) ∧ kvs.length ≤ N ∧ ∀ u v : Nat, valV kvs [Sum.inl (u : Int), Sum.inl (v : Int)] = (g u v).map nV
theorem CsV.keep {H H' : Hp} {D : Addr} {N : Nat} {g : Nat → Nat → Option Nat} (h : CsV H D N g) (k : ∀ o, H D = some o → H' D = some o) : CsV H' D N g := by
  obtain ⟨kvs, e, r⟩ := h
  exact ⟨kvs, k _ e, r⟩
theorem CsV.get {H : Hp} {D b : Addr} {N : Nat} {g : Nat → Nat → Option Nat} (h : CsV H D N g) {u v : Nat} (eb : H b = some (.tup [nV u, nV v])) : DGet H D (.ref b) ((g u v).map nV) := by
  obtain ⟨kvs, e, _, q⟩ := h
  rw [← q u v]
  exact DGet.t (k := [Sum.inl (u : Int), Sum.inl (v : Int)]) e eb
theorem CsV.put {H : Hp} {D b : Addr} {N : Nat} {g : Nat → Nat → Option Nat} (h : CsV H D N g) (hN : N < 100000) {u v : Nat} (x : Nat) (eb : H b = some (.tup [nV u, nV v])) : ∃ H', DPut H D (.ref b) (nV x) H' ∧ CsV H' D (N + 1) (fun i j => if i = u ∧ j = v then some x else g i j) ∧ ∃ o, H' = upd H D o := by
  obtain ⟨kvs, e, l, q⟩ := h
  refine ⟨_, DPut.t (k := [Sum.inl (u : Int), Sum.inl (v : Int)]) e eb (szN (by omega)), ⟨_, upd_same, Nat.le_trans (length_putK _ _ _) (by omega), fun i j => ?_⟩, _, rfl⟩
  rw [valV_put]
  by_cases c : i = u ∧ j = v
  · show _ = ((if i = u ∧ j = v then some x else g i j).map nV)
    rw [if_pos c, c.1, c.2, if_pos rfl]; rfl
  · show _ = ((if i = u ∧ j = v then some x else g i j).map nV)
    rw [if_neg c, if_neg (fun z => c ?_)]
    · exact q i j
    · injection z with z1 z2
      injection z2 with z2 _
      exact ⟨Int.ofNat.inj (Sum.inl.inj z1), Int.ofNat.inj (Sum.inl.inj z2)⟩
theorem bit_eq (m k : Nat) : Builtin.bitAnd ((m : Int) / 2 ^ k) 1 = ((m / 2 ^ k % 2 : Nat) : Int) := by
  rw [PyProof.Rows.bitAnd_m1]; rfl
def oN (o : Option Nat) : V := oV (o.map fun x : Nat => (x : Int))
end Vf

set_option Elab.async false
set_option linter.all false
set_option maxRecDepth 100000
set_option maxHeartbeats 4000000
namespace Vf
open PySem PySem.Spec PyProof.Rows L2 TL LamX
/-- a pair of a total and a tuple of nodes -/
def PpN (H : Hp) (u : V) (c : Nat × List Nat) : Prop := ∃ p q, u = .ref p ∧ H p = some (.tup [nV c.1, .ref q]) ∧ H q = some (.tup (c.2.map nV))
theorem PpN.keep {H H' : Hp} {u : V} {c : Nat × List Nat} (h : PpN H u c) (k : Same H H') : PpN H' u c := by
  obtain ⟨p, q, e, e1, e2⟩ := h
  exact ⟨p, q, e, k _ _ e1, k _ _ e2⟩
theorem PpN.tk {H H' : Hp} {u : V} {c : Nat × List Nat} (h : PpN H u c) (k : ∀ a xs, H a = some (.tup xs) → H' a = some (.tup xs)) : PpN H' u c := by
  obtain ⟨p, q, e, e1, e2⟩ := h
  exact ⟨p, q, e, k _ _ e1, k _ _ e2⟩
def wayOf (as : List Arc) (v m : Nat) : Option (Nat × List Nat) := (tot as (nodesOf (bitOf m) v)).map fun t => (t, (nodesOf (bitOf m) v).reverse)
def waysOf (as : List Arc) (n : Nat) : List (Nat × List Nat) := if n = 1 then [(0, [0])] else (List.range (2 ^ (n - 2))).filterMap (wayOf as (n - 1))
theorem ways_has {as : List Arc} {f g : Nat → Option Nat} (B : Bd (· ∈ as) f g) (up : ∀ a ∈ as, a.1 < a.2.1) (pw : as.Pairwise fun a b => a.1 < b.1 ∨ a.1 = b.1 ∧ a.2.1 < b.2.1) {n y : Nat} (hn : 1 ≤ n) (e : f (n - 1) = some y) : (y, Rw g (n - 1)) ∈ waysOf as n := by
  unfold waysOf
  by_cases c : n = 1
  · subst c
    rw [if_pos rfl]
    have e : f 0 = some y := e
    rw [B.z.1] at e
    have := Option.some.inj e
    subst this
    rw [show (1 : Nat) - 1 = 0 from rfl, Rw_none B.z.2]
    exact List.mem_singleton.mpr rfl
  · rw [if_neg c]
    obtain ⟨b, h1, h2⟩ := tot_bestR B up pw (n - 1) (n - 1) (Nat.le_refl _) (by omega) y e
    refine List.mem_filterMap.mpr ⟨maskOf (n - 2) b, List.mem_range.mpr (mask_lt _ _), ?_⟩
    have := nodes_mask b (n - 1)
    rw [show n - 1 - 1 = n - 2 by omega] at this
    unfold wayOf
    rw [this, h1, h2]; rfl
theorem ways_le {as : List Arc} {f g : Nat → Option Nat} (B : Bd (· ∈ as) f g) (up : ∀ a ∈ as, a.1 < a.2.1) {n : Nat} {c : Nat × List Nat} (h : c ∈ waysOf as n) : ∃ y, f (n - 1) = some y ∧ LeI (y :: Rw g (n - 1)) (c.1 :: c.2) := by
  unfold waysOf at h
  by_cases c1 : n = 1
  · rw [if_pos c1] at h
    rw [List.mem_singleton.mp h, c1]
    refine ⟨0, B.z.1, .inr ?_⟩
    show 0 :: Rw g 0 = 0 :: [0]
    rw [Rw_none B.z.2]
  · rw [if_neg c1] at h
    obtain ⟨m, _, e⟩ := List.mem_filterMap.mp h
    unfold wayOf at e
    cases ht : tot as (nodesOf (bitOf m) (n - 1)) with
    | none => rw [ht] at e; cases e
    | some t =>
      rw [ht] at e
      have e := Option.some.inj e
      subst e
      have hl : (nodesOf (bitOf m) (n - 1)).length - 1 < (nodesOf (bitOf m) (n - 1)).length := by rw [nodes_len]; omega
      have := path_min B up (nodes_0 (bitOf m) (n - 1)) _ t hl ht
      rw [nodes_last, List.take_of_length_le (by omega)] at this
      exact this
section
variable {P : Program} {w : World} {K : PySem.W.Frag} {mg : Str → Option Value} {base : Heap}
def spAll : Sp := fun vs H Q _ => ∃ (v : V) (n : Nat) (as : List Arc), vs = [v] ∧ NetV H v n as ∧ NetOk n as ∧ n ≤ 8 ∧ ∀ H' L us, Same H H' → H' L = some (.lst us) → LV (PpN H') us (waysOf as n) → Q (.ref L) H'
theorem ok_all (T : Txt K mg) : FnOk P w K mg base CX0 1 T.a_law_all_ways T.d_law_all_ways ["_law_net_here"] spAll := by
  refine T.D_law_all_ways.F.ok sc_law_all_ways (fun vs H Q E h => ?_) (fun cdv A outer s H vs Q E hr h => ?_)
  · obtain ⟨v, n, as, rfl, _⟩ := h
    rfl
  · obtain ⟨v, n, as, rfl, ⟨na, pa, us, rfl, e1, e2, lv⟩, ok, n8, q⟩ := h
    have hn := ok.1
    have lA := ok.2.2.1
    obtain ⟨m, rfl⟩ : ∃ m, n = m + 1 := ⟨n - 1, by omega⟩
    refine ⟨_, (pss_cons (ps_asg (pv 0) (pg_tup (by rfl) (pgs_cons (pg_name (i := 1) sc_law_all_ways.nd rfl (.inl rfl)) (pgs_cons (pg_name (i := 2) sc_law_all_ways.nd rfl (.inl rfl)) pgs_nil))))
      (pss_cons (ps_set (i := 3) sc_law_all_ways.nd rfl (.inl rfl) pe_dnewT)
      (pss_cons (ps_for PassesOwn.never rfl (pi_tup (pv 2)) (pg_tup (by rfl) (pgs_cons (pg_name (i := 4) sc_law_all_ways.nd rfl (.inl rfl)) (pgs_cons (pg_name (i := 5) sc_law_all_ways.nd rfl (.inl rfl)) (pgs_cons (pg_name (i := 6) sc_law_all_ways.nd rfl (.inl rfl)) pgs_nil)))) (pss_one (ps_dput (hu1 hr) (pv 3) (pe_tup (pa_cons (pv 4) (pa_cons (pv 5) pa_nil))) (pv 6) rfl)))
      (pss_cons (ps_if (pt_cmpR op_eq (pv 1) pe_int (nomark _)) (pss_one (ps_ret (pe_lst (pa_cons (pe_tup (pa_cons pe_int (pa_cons (pe_tup (pa_cons pe_int pa_nil)) pa_nil))) pa_nil)))) pss_nil)
      (pss_cons (ps_set (i := 7) sc_law_all_ways.nd rfl (.inl rfl) (pe_lst pa_nil))
      (pss_cons (ps_for PassesOwn.never rfl (pi_range1 (by rfl) T.n_range (pa_cons (pe_op op_shl pe_int (pe_op op_sub (pv 1) pe_int)) pa_nil)) (pg_name (i := 8) sc_law_all_ways.nd rfl (.inr rfl)) (pss_cons (ps_set (i := 9) sc_law_all_ways.nd rfl (.inl rfl) (pe_op op_cat (pe_op op_cat (pe_lst (pa_cons pe_int pa_nil)) (pe_lc (own := [("_law_k", 11)]) (g := gName 11) rfl sc_law_all_ways.nd (pi_range2 (by rfl) T.n_range (pa_cons pe_int (pa_cons (pe_op op_sub (pv 1) pe_int) pa_nil))) (blkOk_by (own := [("_law_k", 11)]) (N := ["_law_net_here", "_law_many", "_law_arcs", "_law_costs", "_law_tail", "_law_head", "_law_cost", "_law_found", "_law_mask", "_law_nodes", "_law_total", "_law_k"]) (sc := (defScope s_law_all_ways)) (by decide +kernel)) (fun _ _ _ _ _ => (pg_name (i := 11) sc_law_all_ways.nd rfl (.inl rfl))) (fun _ _ _ _ _ => (pts_one (pt_cmpR op_eq (pe_op op_and (pe_op op_shr (pv 8) (pe_op op_sub (pv 11) pe_int)) pe_int) pe_int (nomark _)))) (fun _ _ _ _ _ => (pv 11)))) (pe_lst (pa_cons (pe_op op_sub (pv 1) pe_int) pa_nil))))
      (pss_cons (ps_set (i := 10) sc_law_all_ways.nd rfl (.inl rfl) pe_int)
      (pss_cons (ps_for PassesOwn.never rfl (pi_range1 (by rfl) T.n_range (pa_cons (pe_op op_sub (pe_callB call_len_seq (by rfl) T.n_len PySem.boot_len (pa_cons (pv 9) pa_nil)) pe_int) pa_nil)) (pg_name (i := 11) sc_law_all_ways.nd rfl (.inl rfl)) (pss_one (ps_if (PW.pt (pw_and (pt_cmpR op_notN (pv 10) pe_non (nomark _)) (pw_and1 (pt_cmp (pc_din (hu1 hr) (pe_tup (pa_cons (pe_ix ix_list (pv 9) (pv 11) (fun _ _ => rfl)) (pa_cons (pe_ix ix_list (pv 9) (pe_op op_add (pv 11) pe_int) (fun _ _ => rfl)) pa_nil))) (pv 3)))))) (pss_one (ps_set (i := 10) sc_law_all_ways.nd rfl (.inl rfl) (pe_op op_add (pv 10) (pe_dget (hu1 hr) (pv 3) (pe_tup (pa_cons (pe_ix ix_list (pv 9) (pv 11) (fun _ _ => rfl)) (pa_cons (pe_ix ix_list (pv 9) (pe_op op_add (pv 11) pe_int) (fun _ _ => rfl)) pa_nil))) (fun _ _ => rfl))))) (pss_one (ps_set (i := 10) sc_law_all_ways.nd rfl (.inl rfl) pe_non)))))
      (pss_one (ps_if (pt_cmpR op_notN (pv 10) pe_non (nomark _)) (pss_cons (ps_expr (pe_bm0 PySem.F.plainAttrs_list PySem.F.slot_list_reverse PySem.F.type_list_reverse mt_reverse (pv 9)))
      (pss_one (ps_expr (pe_bm PySem.F.plainAttrs_list PySem.F.slot_list_append PySem.F.type_list_append mt_append (pv 7) (pa_cons (pe_tup (pa_cons (pv 10) (pa_cons (pe_callTy call_tuple_of (by rfl) T.n_tuple (by decide +kernel) (pa_cons (pv 9) pa_nil)) pa_nil))) pa_nil))))) pss_nil))))))
      (pss_one (ps_ret (pv 7))))))))), ?_⟩
    refine ⟨_, rfl, na, _, rfl, SqT.of e1, rfl, _, _, rfl, _, _, rfl, rfl, ?_⟩
    refine fun D nD => ?_
    have k1 := same_upd (o := .dT []) (Same.refl H) nD
    have d1 : CsV (upd H D (.dT [])) D 0 (cst ([] : List Arc)) := ⟨[], upd_same, Nat.le_refl 0, fun _ _ => rfl⟩
    generalize upd H D (.dT []) = H1 at k1 d1
    refine ⟨_, rfl, pa, rfl, ⟨us, SqT.of (k1 _ _ e2)⟩, ?_⟩
    refine for_it (walk_tup (K := K) (a := pa) (xs := us)) (fun i σ' H' => ∃ (x3 x4 x5 : Option V), σ' = [some (.ref na), some (nV (m + 1)), some (.ref pa), some (.ref D), x3, x4, x5, none, none, none, none, none] ∧ Same H H' ∧ CsV H' D i (cst (as.take i))) ⟨none, none, none, rfl, k1, d1⟩ ?_ ?_ ?_
    · rintro i σ' H' _ ⟨_, _, _, _, k, _⟩
      exact SqT.of (k _ _ e2)
    · rintro i x σ' H3 H4 hi ⟨x3, x4, x5, rfl, k3, d3⟩ ⟨rfl, hx⟩
      obtain ⟨r, hr2, c, rfl, ec⟩ := lv.at hx
      have hil : i < as.length := (List.getElem?_eq_some_iff.mp hr2).1
      refine ⟨c, _, rfl, SqT.of (k3 _ _ ec), rfl, _, _, rfl, _, _, rfl, _, _, rfl, rfl, ?_⟩
      refine ⟨_, rfl, _, rfl, _, rfl, _, rfl, by show 2 ≤ sizeLine; decide, fun t nt => ?_⟩
      have k4 := same_upd (o := .tup [nV r.1, nV r.2.1]) (Same.refl H4) nt
      have et : upd H4 t (.tup [nV r.1, nV r.2.1]) t = some (.tup [nV r.1, nV r.2.1]) := upd_same
      have d4 := d3.keep (k4 D)
      generalize upd H4 t (.tup [nV r.1, nV r.2.1]) = H5 at k4 et d4
      obtain ⟨H6, p6, d6, o, rfl⟩ := d4.put (by omega) r.2.2 et
      refine ⟨D, _, rfl, p6, _, _, _, rfl, same_mut (k3.trans k4) nD, ?_⟩
      have : cst (as.take (i + 1)) = fun u v => if u = r.1 ∧ v = r.2.1 then some r.2.2 else cst (as.take i) u v := funext fun u => funext fun v => cst_take ok.2.2.2.2 hr2 u v
      rw [this]; exact d6
    · rintro σ' H3 ⟨x3, x4, x5, rfl, k3, d3⟩
      rw [lv.1, List.take_length] at d3
      refine ⟨_, rfl, rfl, ?_⟩
      by_cases c0 : m = 0
      · subst c0
        refine ⟨true, bTr rfl, ?_⟩
        refine ⟨by show 1 ≤ sizeLine; decide, fun t1 n1 => ?_⟩
        have j1 := same_upd (o := .tup [V.int 0]) k3 n1
        have et1 : upd H3 t1 (.tup [V.int 0]) t1 = some (.tup [nV 0]) := upd_same
        generalize upd H3 t1 (.tup [V.int 0]) = H31 at j1 et1
        refine ⟨by show 2 ≤ sizeLine; decide, fun t2 n2 => ?_⟩
        have j2 := same_upd (o := .tup [V.int 0, .ref t1]) (Same.refl H31) n2
        have et2 : upd H31 t2 (.tup [V.int 0, .ref t1]) t2 = some (.tup [nV 0, .ref t1]) := upd_same
        generalize upd H31 t2 (.tup [V.int 0, .ref t1]) = H32 at j2 et2
        refine ⟨by show 1 ≤ sizeLine; decide, fun L nL => ?_⟩
        have j3 := same_upd (o := .lst [V.ref t2]) (Same.refl H32) nL
        exact q _ L [.ref t2] (j1.trans (j2.trans j3)) upd_same ((LV.nil (R := PpN _)).snoc (r := (0, [0])) ⟨t2, t1, rfl, j3 _ _ et2, j3 _ _ (j2 _ _ et1)⟩)
      refine ⟨false, bFa (fun z => c0 (by have := V.int.inj z; omega)), ?_⟩
      refine ⟨by show 0 ≤ sizeLine; decide, fun L nL => ?_⟩
      have nLH := (Same.free k3 nL)
      have k4 := same_upd (o := .lst []) k3 nL
      have nDL : D ≠ L := by
        obtain ⟨kvs, h1, _⟩ := d3
        exact ne_of_none h1 nL
      have d4 : CsV (upd H3 L (.lst [])) D as.length (cst as) := d3.keep fun o e => by rw [upd_ne nDL]; exact e
      have eL : upd H3 L (.lst []) L = some (.lst []) := upd_same
      generalize upd H3 L (.lst []) = H4 at k4 d4 eL
      have h64 : 2 ^ (m - 1) ≤ 64 := Nat.pow_le_pow_right (by decide) (show m - 1 ≤ 6 by omega)
      have qe : waysOf as (m + 1) = (List.range (2 ^ (m - 1))).filterMap (wayOf as m) := by unfold waysOf; rw [if_neg (by omega)]; rfl
      rw [qe] at q
      have hE : (1 : Int) * 2 ^ (((m + 1 : Nat) : Int) - 2).toNat = ((2 ^ (m - 1) : Nat) : Int) := by
        rw [Int.one_mul, show (((m + 1 : Nat) : Int) - 2).toNat = m - 1 by omega]; norm_cast
      generalize 2 ^ (m - 1) = M at h64 q hE
      refine ⟨_, rfl, _, _, rfl, rfl, _, _, rfl, rfl, ⟨by omega, by omega, by decide⟩, ((M : Nat) : Int), congrArg (fun i : Int => [V.int i]) hE, by omega, by omega, ?_⟩
      rw [Int.toNat_natCast]
      refine for_it walk_range (fun i σ' H' => ∃ (x7 x8 x9 x10 : Option V), σ' = [some (.ref na), some (nV (m + 1)), some (.ref pa), some (.ref D), x3, x4, x5, some (.ref L), x7, x8, x9, x10] ∧ Same H H' ∧ CsV H' D as.length (cst as) ∧ ∃ us : List V, H' L = some (.lst us) ∧ LV (PpN H') us ((List.range i).filterMap (wayOf as m))) ⟨none, none, none, none, rfl, k4, d4, [], eL, LV.nil⟩ (fun _ _ _ _ _ => trivial) ?_ ?_
      · rintro i x σ' H5 H6 hi ⟨x7, x8, x9, x10, rfl, k5, d5, ws, eL5, lw⟩ ⟨rfl, hx⟩
        have hx : x = nV i := by rw [hx]; show V.int (0 + (i : Int)) = _; rw [Int.zero_add]; rfl
        subst hx
        refine ⟨by show 1 ≤ sizeLine; decide, fun l0 n0 => ?_⟩
        have k6 := same_upd (o := .lst [V.int 0]) (Same.refl H6) n0
        have e0 : upd H6 l0 (.lst [V.int 0]) l0 = some (.lst [nV 0]) := upd_same
        generalize upd H6 l0 (.lst [V.int 0]) = H7 at k6 e0
        refine ⟨_, rfl, _, _, rfl, rfl, 1, (m : Int), congrArg (fun z : Int => [V.int 1, V.int z]) (show ((m + 1 : Nat) : Int) - 1 = (m : Int) by omega), ⟨by omega, by omega, by omega, by omega⟩, fun C nC => ?_⟩
        rw [show ((m : Int) - 1).toNat = m - 1 by omega]
        refine lc_range (lo := 1) (n := m - 1) (fun i2 H' => Same H7 H' ∧ H' C = some (.lst ((mids (bitOf i) i2).map nV))) ⟨same_upd (Same.refl H7) nC, upd_same⟩ (fun i2 H8 hi2 p => ⟨rfl, ?_⟩) (fun H8 p => ?_)
        · obtain ⟨k8, eC⟩ := p
          have ex : V.int ((1 : Int) + (i2 : Int)) = nV (i2 + 1) := by show _ = V.int ((i2 + 1 : Nat) : Int); congr 1; omega
          rw [ex]
          have eb : decide (V.int (Builtin.bitAnd ((i : Int) / 2 ^ (((i2 + 1 : Nat) : Int) - 1).toNat) 1) = V.int 1) = bitOf i i2 := by
            rw [show (((i2 + 1 : Nat) : Int) - 1).toNat = i2 by omega, bit_eq]
            unfold bitOf
            by_cases c : i / 2 ^ i2 % 2 = 1
            · rw [decide_eq_true c]; exact decide_eq_true (by rw [c]; rfl)
            · rw [decide_eq_false c]; exact decide_eq_false fun z => c (Int.ofNat.inj (V.int.inj z))
          refine ⟨_, rfl, _, rfl, _, _, rfl, rfl, _, _, rfl, rfl, by omega, _, _, rfl, rfl, rfl, bitOf i i2, congrArg V.bl eb, ?_⟩
          rw [mids_succ]
          cases hb : bitOf i i2 with
          | true =>
            refine ⟨_, rfl, _, eC, by rw [List.length_map]; exact szN (Nat.lt_of_le_of_lt (mids_len _ _) (by omega)), same_mut k8 nC, ?_⟩
            rw [upd_same, List.map_append]; rfl
          | false =>
            refine ⟨k8, ?_⟩
            show H8 C = some (.lst ((mids (bitOf i) i2 ++ []).map nV))
            rw [List.append_nil]; exact eC
        · obtain ⟨k8, eC⟩ := p
          have lm : (mids (bitOf i) (m - 1)).length ≤ m - 1 := mids_len _ _
          refine ⟨l0, C, _, _, rfl, rfl, k8 _ _ e0, eC, by rw [List.length_map]; show 1 + _ ≤ _; exact Nat.le_of_lt (szN (by omega)), fun p np => ?_⟩
          have k9 := same_upd (o := .lst ([nV 0] ++ (mids (bitOf i) (m - 1)).map nV)) (Same.refl H8) np
          have ep : upd H8 p (.lst ([nV 0] ++ (mids (bitOf i) (m - 1)).map nV)) p = some (.lst ([nV 0] ++ (mids (bitOf i) (m - 1)).map nV)) := upd_same
          generalize upd H8 p (.lst ([nV 0] ++ (mids (bitOf i) (m - 1)).map nV)) = H9 at k9 ep
          refine ⟨_, rfl, _, _, rfl, rfl, by show 1 ≤ sizeLine; decide, fun l2 n2 => ?_⟩
          have eM : V.int (((m + 1 : Nat) : Int) - 1) = nV m := by show _ = V.int (m : Int); congr 1; omega
          have el20 : upd H9 l2 (.lst [V.int (((m + 1 : Nat) : Int) - 1)]) l2 = some (.lst [nV m]) := by rw [eM]; exact upd_same
          have k100 := same_upd (o := .lst [V.int (((m + 1 : Nat) : Int) - 1)]) (Same.refl H9) n2
          have k10 := k100
          have el2 := el20
          clear k100 el20
          show rCat _ _ (upd H9 l2 (.lst [V.int (((m + 1 : Nat) : Int) - 1)])) _
          generalize upd H9 l2 (.lst [V.int (((m + 1 : Nat) : Int) - 1)]) = H10 at k10 el2
          refine ⟨p, l2, _, _, rfl, rfl, k10 _ _ ep, el2, by rw [List.length_append, List.length_map]; show 1 + _ + 1 ≤ _; exact Nat.le_of_lt (szN (by omega)), fun N1 nN => ?_⟩
          have eN : upd H10 N1 (.lst ([nV 0] ++ (mids (bitOf i) (m - 1)).map nV ++ [nV m])) N1 = some (.lst ((nodesOf (bitOf i) m).map nV)) := by
            rw [upd_same]; unfold nodesOf; rw [List.map_cons, List.map_append]; rfl
          have kA := k5.trans (k6.trans (k8.trans (k9.trans k10)))
          have k11 := same_upd (o := .lst ([nV 0] ++ (mids (bitOf i) (m - 1)).map nV ++ [nV m])) (Same.refl H10) nN
          have kB := kA.trans k11
          have d11 := d5.keep fun o e => k11 _ _ (k10 _ _ (k9 _ _ (k8 _ _ (k6 _ _ e))))
          have eL11 := k11 _ _ (k10 _ _ (k9 _ _ (k8 _ _ (k6 _ _ eL5))))
          have lns : (nodesOf (bitOf i) m).length = (mids (bitOf i) (m - 1)).length + 2 := nodes_len _ _
          generalize upd H10 N1 (.lst ([nV 0] ++ (mids (bitOf i) (m - 1)).map nV ++ [nV m])) = H11 at k11 kB d11 eL11 eN
          obtain ⟨ns, ens⟩ : ∃ ns, ns = nodesOf (bitOf i) m := ⟨_, rfl⟩
          rw [← ens] at eN lns
          refine ⟨_, rfl, N1, _, rfl, .inl (SqL.of eN), _, _, rfl, rfl, ((ns.length - 1 : Nat) : Int), congrArg (fun i : Int => [V.int i]) (by rw [List.length_map]; omega), by omega, by omega, ?_⟩
          rw [Int.toNat_natCast]
          refine for_it walk_range (fun j σ' H' => ∃ (x10 : Option V), σ' = [some (.ref na), some (nV (m + 1)), some (.ref pa), some (.ref D), x3, x4, x5, some (.ref L), some (nV i), some (.ref N1), some (oN (totK as ns j)), x10] ∧ Same H H' ∧ CsV H' D as.length (cst as) ∧ H' L = some (.lst ws) ∧ LV (PpN H') ws ((List.range i).filterMap (wayOf as m)) ∧ H' N1 = some (.lst (ns.map nV))) ⟨_, rfl, kB, d11, eL11, lw.mono fun x r z => z.keep fun b o e => k11 _ _ (k10 _ _ (k9 _ _ (k8 _ _ (k6 _ _ e)))), eN⟩ (fun _ _ _ _ _ => trivial) ?_ ?_
          · rintro j y σ' H12 H13 hj ⟨x10, rfl, k12, d12, eL12, lw12, eN12⟩ ⟨rfl, hy⟩
            have hy : y = nV j := by rw [hy]; show V.int (0 + (j : Int)) = _; rw [Int.zero_add]; rfl
            subst hy
            have g1 : (ns.map nV)[j]? = some (nV (ns.getD j 0)) := by rw [List.getElem?_map, List.getElem?_eq_getElem (by omega), List.getD_eq_getElem?_getD, List.getElem?_eq_getElem (by omega)]; rfl
            have g2 : (ns.map nV)[j + 1]? = some (nV (ns.getD (j + 1) 0)) := by rw [List.getElem?_map, List.getElem?_eq_getElem (by omega), List.getD_eq_getElem?_getD, List.getElem?_eq_getElem (by omega)]; rfl
            have sc : totK as ns (j + 1) = stepT as (totK as ns j) (ns.getD j 0) (ns.getD (j + 1) 0) := rfl
            refine ⟨_, rfl, rfl, ?_⟩
            cases ht : totK as ns j with
            | none =>
              rw [ht] at sc
              have sc : totK as ns (j + 1) = none := sc
              refine ⟨false, bNT rfl, some (nV j), ?_, k12, d12, eL12, lw12, eN12⟩
              rw [sc]; rfl
            | some x =>
              rw [ht] at sc
              refine ⟨true, bNF (fun z => by cases z), ?_⟩
              refine ⟨_, rfl, _, rfl, N1, _, _, _, rfl, rfl, SqL.of eN12, atI_nat g1, _, rfl, _, rfl, _, _, rfl, rfl, N1, _, _, _, rfl, rfl, SqL.of eN12, atI_nat (j := j + 1) g2, by show 2 ≤ sizeLine; decide, fun t nt => ?_⟩
              have k13 := same_upd (o := .tup [nV (ns.getD j 0), nV (ns.getD (j + 1) 0)]) (Same.refl H13) nt
              have et : upd H13 t (.tup [nV (ns.getD j 0), nV (ns.getD (j + 1) 0)]) t = some (.tup [nV (ns.getD j 0), nV (ns.getD (j + 1) 0)]) := upd_same
              generalize upd H13 t (.tup [nV (ns.getD j 0), nV (ns.getD (j + 1) 0)]) = H14 at k13 et
              have d14 := d12.keep (k13 D)
              have gt := d14.get et
              refine ⟨_, rfl, D, _, rfl, gt, ?_⟩
              cases hc : cst as (ns.getD j 0) (ns.getD (j + 1) 0) with
              | none =>
                have sc : totK as ns (j + 1) = none := by rw [sc]; show (cst as (ns.getD j 0) (ns.getD (j + 1) 0)).map (x + ·) = none; rw [hc]; rfl
                refine ⟨false, rfl, some (nV j), ?_, k12.trans k13, d14, k13 _ _ eL12, lw12.mono (fun x r z => z.keep k13), k13 _ _ eN12⟩
                rw [sc]; rfl
              | some c =>
                have sc : totK as ns (j + 1) = some (x + c) := by rw [sc]; show (cst as (ns.getD j 0) (ns.getD (j + 1) 0)).map (x + ·) = _; rw [hc]; rfl
                refine ⟨true, rfl, ?_⟩
                have eN14 := k13 _ _ eN12
                refine ⟨_, rfl, _, rfl, _, rfl, _, rfl, N1, _, _, _, rfl, rfl, SqL.of eN14, atI_nat g1, _, rfl, _, rfl, _, _, rfl, rfl, N1, _, _, _, rfl, rfl, SqL.of eN14, atI_nat (j := j + 1) g2, by show 2 ≤ sizeLine; decide, fun t2 nt2 => ?_⟩
                have k15 := same_upd (o := .tup [nV (ns.getD j 0), nV (ns.getD (j + 1) 0)]) (Same.refl H14) nt2
                have et2 : upd H14 t2 (.tup [nV (ns.getD j 0), nV (ns.getD (j + 1) 0)]) t2 = some (.tup [nV (ns.getD j 0), nV (ns.getD (j + 1) 0)]) := upd_same
                generalize upd H14 t2 (.tup [nV (ns.getD j 0), nV (ns.getD (j + 1) 0)]) = H15 at k15 et2
                have d15 := d14.keep (k15 D)
                have gt2 := d15.get et2
                rw [hc] at gt2
                refine ⟨D, _, rfl, gt2, _, _, rfl, rfl, some (nV j), ?_, (k12.trans k13).trans k15, d15, k15 _ _ (k13 _ _ eL12), lw12.mono (fun x r z => z.keep (k13.trans k15)), k15 _ _ eN14⟩
                rw [sc]; rfl
          · rintro σ' H12 ⟨x10, rfl, k12, d12, eL12, lw12, eN12⟩
            have et : totK as ns (ns.length - 1) = tot as (nodesOf (bitOf i) m) := by rw [← ens]; rfl
            rw [et]
            have rs : (List.range (i + 1)).filterMap (wayOf as m) = (List.range i).filterMap (wayOf as m) ++ (wayOf as m i).toList := by
              rw [List.range_succ, List.filterMap_append]
              congr 1
            refine ⟨_, rfl, rfl, ?_⟩
            cases ht : tot as (nodesOf (bitOf i) m) with
            | none =>
              have hw : wayOf as m i = none := by unfold wayOf; rw [ht]; rfl
              refine ⟨false, bNT rfl, _, _, _, _, rfl, k12, d12, ws, eL12, ?_⟩
              rw [rs, hw]
              show LV _ _ (_ ++ [])
              rw [List.append_nil]; exact lw12
            | some x =>
              have hw : wayOf as m i = some (x, ns.reverse) := by unfold wayOf; rw [ht, ens]; rfl
              refine ⟨true, bNF (fun z => by cases z), ?_⟩
              refine ⟨.ref N1, rfl, .inl ⟨rfl, _, .inl (.inl eN12)⟩, N1, _, rfl, rfl, eN12, ?_⟩
              have nN16 : H6 N1 = none := by
                cases e : H6 N1 with
                | none => rfl
                | some o => rw [k10 _ _ (k9 _ _ (k8 _ _ (k6 _ _ e)))] at nN; cases nN
              have nN1H : H N1 = none := Same.free k5 nN16
              have nLN : L ≠ N1 := ne_of_none eL5 nN16
              have nDN : D ≠ N1 := by
                obtain ⟨kvs, h1, _⟩ := d5
                exact ne_of_none h1 nN16
              have tk : ∀ a xs, H12 a = some (.tup xs) → upd H12 N1 (.lst (ns.map nV).reverse) a = some (.tup xs) := fun a xs e => by
                rw [upd_ne (fun z => by rw [z, eN12] at e; cases e)]; exact e
              have k13 := same_mut (o := .lst (ns.map nV).reverse) k12 nN1H
              have d13 : CsV (upd H12 N1 (.lst (ns.map nV).reverse)) D as.length (cst as) := d12.keep fun o e => by rw [upd_ne nDN]; exact e
              have eL13 : upd H12 N1 (.lst (ns.map nV).reverse) L = some (.lst ws) := by rw [upd_ne nLN]; exact eL12
              have lw13 := lw12.mono (fun x r z => z.tk tk)
              have eN13 : upd H12 N1 (.lst (ns.map nV).reverse) N1 = some (.lst (ns.reverse.map nV)) := by rw [upd_same, List.map_reverse]
              generalize upd H12 N1 (.lst (ns.map nV).reverse) = H13 at k13 d13 eL13 lw13 eN13
              refine ⟨.ref L, rfl, .inl ⟨rfl, _, .inl (.inl eL13)⟩, _, rfl, _, rfl, N1, _, rfl, .inl ⟨SqL.of eN13, fun t1 n1 => ?_⟩⟩
              have j1 := same_upd (o := .tup (ns.reverse.map nV)) (Same.refl H13) n1
              have et1 : upd H13 t1 (.tup (ns.reverse.map nV)) t1 = some (.tup (ns.reverse.map nV)) := upd_same
              generalize upd H13 t1 (.tup (ns.reverse.map nV)) = H14 at j1 et1
              refine ⟨by show 2 ≤ sizeLine; decide, fun t2 n2 => ?_⟩
              have j2 := same_upd (o := .tup [oN (some x), .ref t1]) (Same.refl H14) n2
              have et2 : upd H14 t2 (.tup [oN (some x), .ref t1]) t2 = some (.tup [nV x, .ref t1]) := upd_same
              generalize upd H14 t2 (.tup [oN (some x), .ref t1]) = H15 at j2 et2
              have j := j1.trans j2
              have eL15 := j _ _ eL13
              have nDL' := nDL
              refine ⟨L, _, _, rfl, rfl, eL15, ?_, ?_⟩
              · rw [lw13.1]
                exact szN (Nat.lt_of_le_of_lt (List.length_filterMap_le _ _) (by rw [List.length_range]; omega))
              · have tk2 : ∀ a xs, H15 a = some (.tup xs) → upd H15 L (.lst (ws ++ [.ref t2])) a = some (.tup xs) := fun a xs e => by
                  rw [upd_ne (fun z => by rw [z, eL15] at e; cases e)]; exact e
                refine ⟨_, _, _, _, rfl, same_mut (k13.trans j) nLH, (d13.keep (j D)).keep fun o e => by rw [upd_ne nDL]; exact e, _, upd_same, ?_⟩
                rw [rs, hw]
                exact (lw13.mono fun x r z => (z.keep j).tk tk2).snoc (r := (x, ns.reverse)) ⟨t2, t1, rfl, tk2 _ _ et2, tk2 _ _ (j2 _ _ et1)⟩
      · rintro σ' H5 ⟨x7, x8, x9, x10, rfl, k5, d5, ws, eL5, lw⟩
        exact ⟨_, rfl, q _ L ws k5 eL5 lw⟩
end
end Vf

set_option Elab.async false
set_option linter.all false
set_option maxRecDepth 100000
set_option maxHeartbeats 4000000
namespace Vf
open PySem PySem.Spec PyProof.Rows L2 TL LamX
theorem ixN_nat {n j : Nat} (h : j < n) : ixN n (j : Int) = some j := by
  unfold ixN
  rw [if_pos (by omega), if_pos (by omega)]; simp
theorem catA_any {K : PySem.W.Frag} {H : Hp} {a b : Addr} {xs ys : List V} {Q : VK} (ea : H a = some (.tup xs)) (eb : H b = some (.tup ys)) (hz : xs.length + ys.length ≤ sizeLine) (q : ∀ c H', Same H H' → H' c = some (.tup (xs ++ ys)) → Q (.ref c) H') : rCatA K (.ref a) (.ref b) H Q :=
  ⟨a, b, xs, ys, rfl, rfl, SqT.of ea, SqT.of eb, hz, fun z => q b H (Same.refl H) (by rw [z]; exact eb), fun _ z => q a H (Same.refl H) (by rw [z, List.append_nil]; exact ea), fun _ _ p np => q p _ (same_upd (Same.refl H) np) upd_same⟩
/-- the best pair of a node, or none -/
def BeV (H : Hp) (x : V) (o : Option Nat) (ns : List Nat) : Prop := match o with
  | none => x = .non
  | some y => PpN H x (y, ns)
theorem BeV.tk {H H' : Hp} {x : V} {o : Option Nat} {ns : List Nat} (h : BeV H x o ns) (k : ∀ a xs, H a = some (.tup xs) → H' a = some (.tup xs)) : BeV H' x o ns := by
  cases o with
  | none => exact h
  | some y => exact PpN.tk h k
def rowsOf (f g : Nat → Option Nat) (v : Nat) (l : List Arc) : List (Nat × List Nat) := l.filterMap fun a => if a.2.1 = v then (f a.1).map fun x => (x + a.2.2, v :: Rw g a.1) else none
theorem min_eq {K0 c : Nat × List Nat} (h : LeI (K0.1 :: K0.2) (c.1 :: c.2)) (n : ¬ kyP ((K0.1 : Int), zI K0.2) < kyP ((c.1 : Int), zI c.2)) : c = K0 := by
  rcases h with h | h
  · exact absurd h n
  · injection h with h1 h2
    exact Prod.ext h1.symm h2.symm
theorem PpN.prv {K : PySem.W.Frag} {H : Hp} {u : V} {c : Nat × List Nat} (h : PpN H u c) : PrV K H u ((c.1 : Int), zI c.2) := by
  obtain ⟨p, q, e, e1, e2⟩ := h
  exact ⟨p, q, e, SqT.of e1, SqT.of (by rw [e2]; unfold zI; rw [List.map_map]; rfl)⟩
/-- min of such pairs: K0 is among them and none is below -/
theorem min_of {K : PySem.W.Frag} {H : Hp} {a : Addr} {us : List V} {cs : List (Nat × List Nat)} {K0 : Nat × List Nat} (ea : H a = some (.lst us)) (lv : LV (PpN H) us cs) (hm : K0 ∈ cs) (hl : ∀ c ∈ cs, LeI (K0.1 :: K0.2) (c.1 :: c.2)) :
    ∃ cs' : List (Int × List Int), SqL K H a us ∧ LV (PrV K H) us cs' ∧ 0 < cs'.length ∧ ∀ (i : Nat) u c, us[i]? = some u → cs'[i]? = some c → (∀ y ∈ cs', ¬ kyP y < kyP c) → PpN H u K0 := by
  refine ⟨cs.map fun c => ((c.1 : Int), zI c.2), SqL.of ea, ⟨by rw [List.length_map]; exact lv.1, fun i r e => ?_⟩, by rw [List.length_map]; exact List.length_pos_of_mem hm, fun i u r eu er hr => ?_⟩
  · rw [List.getElem?_map] at e
    cases h : cs[i]? with
    | none => rw [h] at e; cases e
    | some c =>
      rw [h] at e
      have e := Option.some.inj e
      subst e
      obtain ⟨x, e1, e2⟩ := lv.2 i c h
      exact ⟨x, e1, e2.prv⟩
  · rw [List.getElem?_map] at er
    cases h : cs[i]? with
    | none => rw [h] at er; cases er
    | some c =>
      rw [h] at er
      have er := Option.some.inj er
      subst er
      obtain ⟨x, e1, e2⟩ := lv.2 i c h
      rw [eu] at e1
      have := Option.some.inj e1
      subst this
      have := min_eq (hl c (List.mem_of_getElem? h)) (hr _ (List.mem_map.mpr ⟨K0, hm, rfl⟩))
      subst this
      exact e2
section
variable {P : Program} {w : World} {K : PySem.W.Frag} {mg : Str → Option Value} {base : Heap}
def spBest : Sp := fun vs H Q _ => ∃ (v : V) (n : Nat) (as : List Arc) (f g : Nat → Option Nat), vs = [v] ∧ NetV H v n as ∧ NetOk n as ∧ Bd (· ∈ as) f g ∧ ∀ H' x, Same H H' → BeV H' x (f (n - 1)) (Rw g (n - 1)) → Q x H'
def BsI (H : Hp) (L : Addr) (n : Nat) (f g : Nat → Option Nat) (i : Nat) (H' : Hp) : Prop := Same H H' ∧ H L = none ∧ ∃ bs : List V, H' L = some (.lst bs) ∧ bs.length = n ∧ (∀ j, j < i → j < n → ∃ x, bs[j]? = some x ∧ BeV H' x (f j) (Rw g j)) ∧ ∀ j, i ≤ j → j < n → bs[j]? = some .non
theorem ok_by_nodes (T : Txt K mg) : FnOk P w K mg base CX0 1 T.a_law_by_nodes T.d_law_by_nodes ["_law_net_here"] spBest := by
  refine T.D_law_by_nodes.F.ok sc_law_by_nodes (fun vs H Q E h => ?_) (fun cdv A outer s H vs Q E hr h => ?_)
  · obtain ⟨v, n, as, f, g, rfl, _⟩ := h
    rfl
  · obtain ⟨v, n, as, f, g, rfl, ⟨na, pa, us, rfl, e1, e2, lv⟩, ok, bd, q⟩ := h
    have hn := ok.1
    have n7 := ok.2.1
    have lA := ok.2.2.1
    have up : ∀ a ∈ as, a.1 < a.2.1 := fun a h => (ok.2.2.2.1 a h).1
    have dn := bd.dn up
    refine ⟨_, (pss_cons (ps_set (i := 1) sc_law_by_nodes.nd rfl (.inl rfl) (pe_op op_rep (pe_lst (pa_cons pe_non pa_nil)) (pe_ix ix_tup (pv 0) pe_int (fun _ _ => rfl))))
      (pss_cons (ps_asg (pe_tup (pa_cons pe_int (pa_cons (pe_tup (pa_cons pe_int pa_nil)) pa_nil))) (pg_sub (pv 1) pe_int set_list))
      (pss_cons (ps_for PassesOwn.never rfl (pi_range2 (by rfl) T.n_range (pa_cons pe_int (pa_cons (pe_ix ix_tup (pv 0) pe_int (fun _ _ => rfl)) pa_nil))) (pg_name (i := 2) sc_law_by_nodes.nd rfl (.inl rfl)) (pss_cons (ps_set (i := 3) sc_law_by_nodes.nd rfl (.inl rfl) (pe_lst pa_nil))
      (pss_cons (ps_for PassesOwn.never rfl (pi_tup (pe_ix ix_tup (pv 0) pe_int (fun _ _ => rfl))) (pg_tup (by rfl) (pgs_cons (pg_name (i := 4) sc_law_by_nodes.nd rfl (.inl rfl)) (pgs_cons (pg_name (i := 5) sc_law_by_nodes.nd rfl (.inl rfl)) (pgs_cons (pg_name (i := 6) sc_law_by_nodes.nd rfl (.inl rfl)) pgs_nil)))) (pss_one (ps_if (PW.pt (pw_and (pt_cmpR op_eq (pv 5) (pv 2) (nomark _)) (pw_and1 (pt_cmpR op_notN (pe_ix ix_list (pv 1) (pv 4) (fun _ _ => rfl)) pe_non (nomark _))))) (pss_one (ps_expr (pe_bm PySem.F.plainAttrs_list PySem.F.slot_list_append PySem.F.type_list_append mt_append (pv 3) (pa_cons (pe_tup (pa_cons (pe_op op_add (pe_ix ix_tup (pe_ix ix_list (pv 1) (pv 4) (fun _ _ => rfl)) pe_int (fun _ _ => rfl)) (pv 6)) (pa_cons (pe_op op_catA (pe_tup (pa_cons (pv 2) pa_nil)) (pe_ix ix_tup (pe_ix ix_list (pv 1) (pv 4) (fun _ _ => rfl)) pe_int (fun _ _ => rfl))) pa_nil))) pa_nil)))) pss_nil)))
      (pss_one (ps_if (pt_truth (pv 3) (by intro _; rfl)) (pss_one (ps_asg (pe_callB (call_minP (by rfl) (Room.units hr)) (by rfl) T.n_min (by decide +kernel) (pa_cons (pv 3) pa_nil)) (pg_sub (pv 1) (pv 2) set_list))) pss_nil)))))
      (pss_one (ps_ret (pe_ix ix_list (pv 1) (pe_op op_sub (pe_ix ix_tup (pv 0) pe_int (fun _ _ => rfl)) pe_int) (fun _ _ => rfl))))))), ?_⟩
    refine ⟨by show 1 ≤ sizeLine; decide, fun L0 n0 => ?_⟩
    have s0 := same_upd (o := .lst [V.non]) (Same.refl H) n0
    refine ⟨_, rfl, na, _, 0, _, rfl, rfl, SqT.of (s0 _ _ e1), rfl, ?_⟩
    refine ⟨L0, _, [V.non], rfl, rfl, upd_same, by omega, by omega, by simp; exact Nat.le_of_lt (szN (by omega)), fun L nL => ?_⟩
    have eR : (List.replicate ((n : Nat) : Int).toNat [V.non]).flatten = List.replicate n V.non := by
      rw [Int.toNat_natCast]
      clear hn n7 q e1 ok
      induction n with
      | zero => rfl
      | succ n ih => rw [List.replicate_succ, List.flatten_cons, ih]; rfl
    have sA := same_upd (o := .lst (List.replicate ((n : Nat) : Int).toNat [V.non]).flatten) s0 nL
    have nLH := Same.free s0 nL
    have eL : upd (upd H L0 (.lst [V.non])) L (.lst (List.replicate ((n : Nat) : Int).toNat [V.non]).flatten) L = some (.lst (List.replicate n V.non)) := by rw [← eR]; exact upd_same
    generalize upd (upd H L0 (.lst [V.non])) L (.lst (List.replicate ((n : Nat) : Int).toNat [V.non]).flatten) = H1 at sA eL
    refine ⟨by show 1 ≤ sizeLine; decide, fun t1 n1 => ?_⟩
    have j1 := same_upd (o := .tup [V.int 0]) (Same.refl H1) n1
    have et1 : upd H1 t1 (.tup [V.int 0]) t1 = some (.tup [nV 0]) := upd_same
    generalize upd H1 t1 (.tup [V.int 0]) = H2 at j1 et1
    refine ⟨by show 2 ≤ sizeLine; decide, fun t2 n2 => ?_⟩
    have j2 := same_upd (o := .tup [V.int 0, .ref t1]) (Same.refl H2) n2
    have et2 : upd H2 t2 (.tup [V.int 0, .ref t1]) t2 = some (.tup [nV 0, .ref t1]) := upd_same
    generalize upd H2 t2 (.tup [V.int 0, .ref t1]) = H3 at j2 et2
    have eL3 := j2 _ _ (j1 _ _ eL)
    refine ⟨_, rfl, L, _, ((0 : Nat) : Int), _, rfl, rfl, eL3, ixN_nat (j := 0) (by rw [List.length_replicate]; omega), ?_⟩
    have I0 : BsI H L n f g 1 (upd H3 L (.lst ((List.replicate n V.non).set 0 (.ref t2)))) := by
      have tk : ∀ a xs, H3 a = some (.tup xs) → upd H3 L (.lst ((List.replicate n V.non).set 0 (.ref t2))) a = some (.tup xs) := fun a xs e => by
        rw [upd_ne (fun z => by rw [z, eL3] at e; cases e)]; exact e
      refine ⟨same_mut (sA.trans (j1.trans j2)) nLH, nLH, _, upd_same, by rw [List.length_set, List.length_replicate], fun j hj hj2 => ?_, fun j hj hj2 => ?_⟩
      · have : j = 0 := by omega
        subst this
        refine ⟨.ref t2, by rw [List.getElem?_set, if_pos rfl, if_pos (by rw [List.length_replicate]; omega)], ?_⟩
        rw [bd.z.1, Rw_none bd.z.2]
        exact ⟨t2, t1, rfl, tk _ _ et2, tk _ _ (j2 _ _ et1)⟩
      · rw [List.getElem?_set, if_neg (by omega), List.getElem?_replicate, if_pos hj2]
    generalize upd H3 L (.lst ((List.replicate n V.non).set 0 (.ref t2))) = H4 at I0
    refine ⟨_, rfl, na, _, 0, _, rfl, rfl, SqT.of (I0.1 _ _ e1), rfl, 1, (n : Int), rfl, ⟨by omega, by omega, by omega, by omega⟩, ?_⟩
    rw [show ((n : Int) - 1).toNat = n - 1 by omega]
    refine for_it walk_range (fun i σ' H' => ∃ (x2 x3 x4 x5 x6 : Option V), σ' = [some (.ref na), some (.ref L), x2, x3, x4, x5, x6] ∧ BsI H L n f g (1 + i) H') ⟨none, none, none, none, none, rfl, I0⟩ (fun _ _ _ _ _ => trivial) ?_ ?_
    · rintro i x σ' H5 H6 hi ⟨x2, x3, x4, x5, x6, rfl, k5, _, bs, eL5, lbs, hb, hb2⟩ ⟨rfl, hx⟩
      have hx : x = nV (1 + i) := by rw [hx]; rfl
      subst hx
      obtain ⟨v, ev⟩ : ∃ v, v = 1 + i := ⟨_, rfl⟩
      rw [← ev] at hb hb2 ⊢
      have hvn : v < n := by omega
      have hv0 : v ≠ 0 := by omega
      refine ⟨by show 0 ≤ sizeLine; decide, fun R nR => ?_⟩
      have nRH := Same.free k5 nR
      have nLR : L ≠ R := ne_of_none eL5 nR
      have k6 := same_upd (o := .lst []) k5 nR
      have eR6 : upd H6 R (.lst []) R = some (.lst []) := upd_same
      have k61 := same_upd (o := .lst []) (Same.refl H6) nR
      generalize upd H6 R (.lst []) = H7 at k6 k61 eR6
      have hb7 := fun j h1 h2 => (hb j h1 h2 : ∃ x, bs[j]? = some x ∧ BeV H6 x (f j) (Rw g j))
      refine ⟨_, rfl, na, _, 1, _, rfl, rfl, SqT.of (k6 _ _ e1), rfl, pa, rfl, ⟨us, SqT.of (k6 _ _ e2)⟩, ?_⟩
      refine for_it (walk_tup (K := K) (a := pa) (xs := us)) (fun k σ' H' => ∃ (x4 x5 x6 : Option V) (rs : List V), σ' = [some (.ref na), some (.ref L), some (nV v), some (.ref R), x4, x5, x6] ∧ Same H H' ∧ H' L = some (.lst bs) ∧ (∀ a xs, H6 a = some (.tup xs) → H' a = some (.tup xs)) ∧ H' R = some (.lst rs) ∧ LV (PpN H') rs (rowsOf f g v (as.take k))) ⟨x4, x5, x6, [], rfl, k6, k61 _ _ eL5, fun a xs e => k61 _ _ e, eR6, LV.nil⟩ ?_ ?_ ?_
      · rintro k σ' H' _ ⟨_, _, _, _, _, k', _⟩
        exact SqT.of (k' _ _ e2)
      · rintro k y σ' H8 H9 hk ⟨x4, x5, x6, rs, rfl, k8, eL8, tk8, eR8, lr⟩ ⟨rfl, hy⟩
        obtain ⟨r, hr2, c, rfl, ec⟩ := lv.at hy
        have hm := ok.2.2.2.1 r (List.mem_of_getElem? hr2)
        have hk2 : k < as.length := (List.getElem?_eq_some_iff.mp hr2).1
        have er : rowsOf f g v (as.take (k + 1)) = rowsOf f g v (as.take k) ++ (if r.2.1 = v then (f r.1).map fun x => (x + r.2.2, v :: Rw g r.1) else none).toList := by
          unfold rowsOf
          rw [show as.take (k + 1) = as.take k ++ [r] by rw [List.take_succ, hr2]; rfl, List.filterMap_append]
          congr 1
        refine ⟨c, _, rfl, SqT.of (k8 _ _ ec), rfl, _, _, rfl, _, _, rfl, _, _, rfl, rfl, ?_⟩
        refine ⟨_, rfl, _, rfl, rfl, ?_⟩
        by_cases cv : r.2.1 = v
        case neg =>
          refine ⟨false, bFa (fun z => cv (Int.ofNat.inj (V.int.inj z))), _, _, _, rs, rfl, k8, eL8, tk8, eR8, ?_⟩
          rw [er, if_neg cv]
          show LV _ _ (_ ++ [])
          rw [List.append_nil]; exact lr
        refine ⟨true, bTr (by rw [cv]), ?_⟩
        obtain ⟨bx, ebx, hbx⟩ := hb7 r.1 (by omega) (by omega)
        refine ⟨_, rfl, _, rfl, L, _, _, _, rfl, rfl, SqL.of eL8, atI_nat ebx, ?_⟩
        cases hf : f r.1 with
        | none =>
          rw [hf] at hbx
          have hbx : bx = .non := hbx
          subst hbx
          refine ⟨rfl, false, bNT rfl, _, _, _, rs, rfl, k8, eL8, tk8, eR8, ?_⟩
          rw [er, if_pos cv, hf]
          show LV _ _ (_ ++ [])
          rw [List.append_nil]; exact lr
        | some x =>
          rw [hf] at hbx
          obtain ⟨p, pq, rfl, ep, epq⟩ := PpN.tk hbx tk8
          refine ⟨rfl, true, bNF (fun z => by cases z), ?_⟩
          refine ⟨.ref R, rfl, .inl ⟨rfl, _, .inl (.inl eR8)⟩, ?_⟩
          refine ⟨_, rfl, _, rfl, L, _, _, _, rfl, rfl, SqL.of eL8, atI_nat ebx, p, _, 0, _, rfl, rfl, SqT.of ep, rfl, _, rfl, _, _, rfl, rfl, ?_⟩
          refine ⟨_, rfl, by show 1 ≤ sizeLine; decide, fun t1 n1 => ?_⟩
          have m1 := same_upd (o := .tup [nV v]) (Same.refl H9) n1
          have et1 : upd H9 t1 (.tup [nV v]) t1 = some (.tup [nV v]) := upd_same
          generalize upd H9 t1 (.tup [nV v]) = H10 at m1 et1
          refine ⟨_, rfl, _, rfl, L, _, _, _, rfl, rfl, SqL.of (m1 _ _ eL8), atI_nat ebx, p, _, 1, _, rfl, rfl, SqT.of (m1 _ _ ep), rfl, ?_⟩
          refine catA_any et1 (m1 _ _ epq) (by rw [List.length_map]; have := Rw_len dn r.1 r.1 (Nat.le_refl _); show 1 + (Rw g r.1).length ≤ _; exact Nat.le_of_lt (szN (by omega))) fun t2 H11 m2 et2 => ?_
          refine ⟨by show 2 ≤ sizeLine; decide, fun t3 n3 => ?_⟩
          have m3 := same_upd (o := .tup [V.int ((x : Int) + (r.2.2 : Int)), .ref t2]) (Same.refl H11) n3
          have et3 : upd H11 t3 (.tup [V.int ((x : Int) + (r.2.2 : Int)), .ref t2]) t3 = some (.tup [nV (x + r.2.2), .ref t2]) := upd_same
          generalize upd H11 t3 (.tup [V.int ((x : Int) + (r.2.2 : Int)), .ref t2]) = H12 at m3 et3
          have m := m1.trans (m2.trans m3)
          have eR12 := m _ _ eR8
          have lrs : rs.length ≤ 210 := by
            rw [lr.1]
            exact Nat.le_trans (List.length_filterMap_le _ _) (by rw [List.length_take]; omega)
          refine ⟨R, _, _, rfl, rfl, eR12, szN (by omega), ?_⟩
          have tk2 : ∀ a xs, H12 a = some (.tup xs) → upd H12 R (.lst (rs ++ [.ref t3])) a = some (.tup xs) := fun a xs e => by
            rw [upd_ne (fun z => by rw [z, eR12] at e; cases e)]; exact e
          refine ⟨_, _, _, _, rfl, same_mut (k8.trans m) nRH, by rw [upd_ne nLR]; exact m _ _ eL8, fun a xs e => tk2 _ _ (m _ _ (tk8 _ _ e)), upd_same, ?_⟩
          rw [er, if_pos cv, hf]
          exact (lr.mono fun x r z => (z.keep m).tk tk2).snoc (r := (x + r.2.2, v :: Rw g r.1)) ⟨t3, t2, rfl, tk2 _ _ et3, tk2 _ _ (m3 _ _ et2)⟩
      · rintro σ' H8 ⟨x4, x5, x6, rs, rfl, k8, eL8, tk8, eR8, lr⟩
        rw [lv.1, List.take_length] at lr
        have lastI : ∀ j, j < 1 + (i + 1) ↔ j < v ∨ j = v := fun j => by omega
        refine ⟨_, rfl, ?_⟩
        cases hf : f v with
        | none =>
          have er : rowsOf f g v as = [] := List.eq_nil_iff_forall_not_mem.mpr fun z hz => by
            obtain ⟨a, ha, e⟩ := List.mem_filterMap.mp hz
            by_cases c : a.2.1 = v
            · rw [if_pos c] at e
              have : f a.1 = none := (bd.n v hv0 hf).2 a.1 a.2.2 (by rw [← c]; exact ha)
              rw [this] at e; cases e
            · rw [if_neg c] at e; cases e
          have : rs = [] := List.eq_nil_of_length_eq_zero (by rw [lr.1, er]; rfl)
          subst this
          refine ⟨false, .inl ⟨_, SqL.of eR8, rfl⟩, ?_⟩
          refine ⟨_, _, _, _, _, rfl, k8, nLH, bs, eL8, lbs, fun j hj hj2 => ?_, fun j hj hj2 => hb2 j (by omega) hj2⟩
          rcases (lastI j).mp hj with h | h
          · obtain ⟨x, e1, e2⟩ := hb7 j h hj2
            exact ⟨x, e1, e2.tk tk8⟩
          · subst h
            refine ⟨.non, hb2 j (Nat.le_refl _) hj2, ?_⟩
            rw [hf]; rfl
        | some y =>
          obtain ⟨u, c, x, hmm, hfu, eK⟩ := best_from bd up hv0 hf
          injection eK with eK1 eK2
          have hK : (y, Rw g v) ∈ rowsOf f g v as := List.mem_filterMap.mpr ⟨(u, v, c), hmm, by rw [if_pos rfl]; show (f u).map _ = _; rw [hfu, eK1, eK2]; rfl⟩
          have hmin : ∀ z ∈ rowsOf f g v as, LeI (y :: Rw g v) (z.1 :: z.2) := fun z hz => by
            obtain ⟨a, ha, e⟩ := List.mem_filterMap.mp hz
            by_cases c : a.2.1 = v
            · rw [if_pos c] at e
              cases h : f a.1 with
              | none => rw [h] at e; cases e
              | some x' =>
                rw [h] at e
                have e := Option.some.inj e
                subst e
                obtain ⟨y', e3, l3⟩ := best_arc bd up (u := a.1) (v := v) (c := a.2.2) (by rw [← c]; exact ha) h
                rw [hf] at e3
                have := Option.some.inj e3
                subst this
                exact l3
            · rw [if_neg c] at e; cases e
          have hne : rs ≠ [] := fun z => by
            have := lr.1
            rw [z] at this
            have h2 := List.length_pos_of_mem hK
            rw [← this] at h2
            exact absurd h2 (Nat.lt_irrefl 0)
          refine ⟨true, .inl ⟨_, SqL.of eR8, by cases rs with | nil => exact absurd rfl hne | cons a b => rfl⟩, ?_⟩
          obtain ⟨cs', m1, m2, m3, m4⟩ := min_of (K := K) eR8 lr hK hmin
          refine ⟨_, rfl, R, rs, cs', rfl, m1, m2, m3, fun i' ux c' h1 h2 h3 => ?_⟩
          have hux := m4 i' ux c' h1 h2 h3
          refine ⟨_, rfl, _, rfl, L, _, ((v : Nat) : Int), v, rfl, rfl, eL8, ixN_nat (by omega), ?_⟩
          have tk2 : ∀ a xs, H8 a = some (.tup xs) → upd H8 L (.lst (bs.set v ux)) a = some (.tup xs) := fun a xs e => by
            rw [upd_ne (fun z => by rw [z, eL8] at e; cases e)]; exact e
          refine ⟨_, _, _, _, _, rfl, same_mut k8 nLH, nLH, _, upd_same, by rw [List.length_set]; exact lbs, fun j hj hj2 => ?_, fun j hj hj2 => by rw [List.getElem?_set, if_neg (by omega)]; exact hb2 j (by omega) hj2⟩
          rcases (lastI j).mp hj with h | h
          · obtain ⟨x, e1, e2⟩ := hb7 j h hj2
            exact ⟨x, by rw [List.getElem?_set, if_neg (by omega)]; exact e1, (e2.tk tk8).tk tk2⟩
          · subst h
            refine ⟨ux, by rw [List.getElem?_set, if_pos rfl, if_pos (by omega)], ?_⟩
            rw [hf]
            exact hux.tk tk2
    · rintro σ' H5 ⟨x2, x3, x4, x5, x6, rfl, k5, _, bs, eL5, lbs, hb, hb2⟩
      obtain ⟨x, ex, hx⟩ := hb (n - 1) (by omega) (by omega)
      refine ⟨_, rfl, _, rfl, na, _, 0, _, rfl, rfl, SqT.of (k5 _ _ e1), rfl, _, _, rfl, rfl, L, _, _, _, rfl, rfl, SqL.of eL5, by rw [show (n : Int) - 1 = ((n - 1 : Nat) : Int) by omega]; exact atI_nat ex, ?_⟩
      exact q _ x k5 hx
end
end Vf

set_option Elab.async false
set_option linter.all false
set_option maxRecDepth 100000
set_option maxHeartbeats 4000000
namespace Vf
open PySem PySem.Spec PyProof.Rows L2 TL
/-- two values are the same data, at most n - 1 tuples deep -/
def Eqv : Nat → Hp → V → V → Prop
  | 0, _, _, _ => False
  | n + 1, H, v, u => ((∃ z, v = .str z ∧ u = .str z) ∨ (∃ i, v = .int i ∧ u = .int i) ∨ (v = .non ∧ u = .non)) ∨
      ∃ (a b : Addr) (xs ys : List V), v = .ref a ∧ u = .ref b ∧ H a = some (.tup xs) ∧ H b = some (.tup ys) ∧ xs.length = ys.length ∧ xs.length ≤ 100000 ∧ ∀ (i : Nat) x y, xs[i]? = some x → ys[i]? = some y → Eqv n H x y
def spExact (n : Nat) : Sp := fun vs H Q _ => ∃ (v u : V), vs = [v, u] ∧ Eqv n H v u ∧ Q (.bl true) H
theorem eq_self {H : Hp} {Q : VK} {x : V} (q : Q (.bl true) H) : Q (.bl (decide (x = x))) H := by
  rw [decide_eq_true rfl]; exact q
section
variable {P : Program} {w : World} {K : PySem.W.Frag} {mg : Str → Option Value} {base : Heap}
theorem ok_exact (T : Txt K mg) : ∀ n : Nat, FnOk P w K mg base CX0 (n + 1) T.a_law_exact T.d_law_exact ["_law_told", "_law_due_here"] (spExact n)
  | 0 => by
    refine T.D_law_exact.F.ok sc_law_exact (fun vs H Q E h => ?_) (fun cdv A outer s H vs Q E hr h => ?_)
    · obtain ⟨v, u, rfl, _⟩ := h
      rfl
    · obtain ⟨v, u, rfl, hE, q⟩ := h
      exact hE.elim
  | n + 1 => by
    have G_law_exact : FnOk P w K mg base CX0 (n + 1) T.a_law_exact T.d_law_exact ["_law_told", "_law_due_here"] (spExact n) := ok_exact T n
    refine T.D_law_exact.F.ok sc_law_exact (fun vs H Q E h => ?_) (fun cdv A outer s H vs Q E hr h => ?_)
    · obtain ⟨v, u, rfl, _⟩ := h
      rfl
    · obtain ⟨v, u, rfl, hE, q⟩ := h
      refine ⟨_, (pss_cons (ps_if (pt_val (pe_callB call_isi (by rfl) T.n_isinstance (by decide +kernel) (pa_cons (pv 1) (pa_cons (pe_bltn (v := .ty "tuple") (by rfl) T.n_tuple (by decide +kernel) rfl) pa_nil)))) (pss_cons (ps_if (PW.pt (pw_or (pt_not (pt_val (pe_callB call_isi (by rfl) T.n_isinstance (by decide +kernel) (pa_cons (pv 0) (pa_cons (pe_bltn (v := .ty "tuple") (by rfl) T.n_tuple (by decide +kernel) rfl) pa_nil))))) (pw_or1 (pt_cmpR op_ne (pe_callB call_len (by rfl) T.n_len PySem.boot_len (pa_cons (pv 0) pa_nil)) (pe_callB call_len (by rfl) T.n_len PySem.boot_len (pa_cons (pv 1) pa_nil)) (nomark _))))) (pss_one (ps_ret pe_bl)) pss_nil)
      (pss_cons (ps_for PassesOwn.never rfl (pi_range1 (by rfl) T.n_range (pa_cons (pe_callB call_len (by rfl) T.n_len PySem.boot_len (pa_cons (pv 1) pa_nil)) pa_nil)) (pg_name (i := 2) sc_law_exact.nd rfl (.inl rfl)) (pss_one (ps_if (pt_not (pt_val (pe_call G_law_exact hr (by rfl) T.D_law_exact.G T.D_law_exact.F.kp T.D_law_exact.B .nil pass0 (pa_cons (pe_ix ix_seq (pv 0) (pv 2) (fun _ _ => rfl)) (pa_cons (pe_ix ix_seq (pv 1) (pv 2) (fun _ _ => rfl)) pa_nil))))) (pss_one (ps_ret pe_bl)) pss_nil)))
      (pss_one (ps_ret pe_bl)))) pss_nil)
      (pss_cons (ps_if (pt_cmpR op_isN (pv 1) pe_non (nomark _)) (pss_one (ps_ret (pe_cmpR op_isN (pv 0) pe_non (nomark _)))) pss_nil)
      (pss_cons (ps_if (pt_val (pe_callB call_isi (by rfl) T.n_isinstance (by decide +kernel) (pa_cons (pv 1) (pa_cons (pe_bltn (v := .ty "bool") (by rfl) T.n_bool (by decide +kernel) rfl) pa_nil)))) (pss_one (ps_ret (pe_and (pe_callB call_isi (by rfl) T.n_isinstance (by decide +kernel) (pa_cons (pv 0) (pa_cons (pe_bltn (v := .ty "bool") (by rfl) T.n_bool (by decide +kernel) rfl) pa_nil))) (pe_one (pe_cmpR op_eq (pv 0) (pv 1) (nomark _)))))) pss_nil)
      (pss_cons (ps_if (pt_val (pe_callB call_isi (by rfl) T.n_isinstance (by decide +kernel) (pa_cons (pv 1) (pa_cons (pe_bltn (v := .ty "int") (by rfl) T.n_int (by decide +kernel) rfl) pa_nil)))) (pss_one (ps_ret (pe_and (pe_callB call_isi (by rfl) T.n_isinstance (by decide +kernel) (pa_cons (pv 0) (pa_cons (pe_bltn (v := .ty "int") (by rfl) T.n_int (by decide +kernel) rfl) pa_nil))) (pe_and (pe_not (pe_callB call_isi (by rfl) T.n_isinstance (by decide +kernel) (pa_cons (pv 0) (pa_cons (pe_bltn (v := .ty "bool") (by rfl) T.n_bool (by decide +kernel) rfl) pa_nil)))) (pe_one (pe_cmpR op_eq (pv 0) (pv 1) (nomark _))))))) pss_nil)
      (pss_one (ps_ret (pe_and (pe_callB call_isi (by rfl) T.n_isinstance (by decide +kernel) (pa_cons (pv 0) (pa_cons (pe_bltn (v := .ty "str") (by rfl) T.n_str (by decide +kernel) rfl) pa_nil))) (pe_one (pe_cmpR op_eq (pv 0) (pv 1) (nomark _)))))))))), ?_⟩
      rcases hE with (⟨z, rfl, rfl⟩ | ⟨i, rfl, rfl⟩ | ⟨rfl, rfl⟩) | ⟨a, b, xs, ys, rfl, rfl, ha, hb, el, en, hE⟩
      · refine ⟨_, rfl, _, _, .type "str", .type "tuple", false, rfl, .ty _, .base (.str _), kit_ty (by decide +kernel), _, rfl, ?_⟩
        refine ⟨_, rfl, rfl, false, bl_of (decide_eq_false (fun e => by cases e)), ?_⟩
        refine ⟨_, rfl, _, _, .type "str", .type "bool", false, rfl, .ty _, .base (.str _), kit_ty (by decide +kernel), _, rfl, ?_⟩
        refine ⟨_, rfl, _, _, .type "str", .type "int", false, rfl, .ty _, .base (.str _), kit_ty (by decide +kernel), _, rfl, ?_⟩
        exact ⟨_, rfl, _, _, .type "str", .type "str", true, rfl, .ty _, .base (.str _), kit_ty (by decide +kernel), true, rfl, _, rfl, _, rfl, rfl, eq_self q⟩
      · refine ⟨_, rfl, _, _, .type "int", .type "tuple", false, rfl, .ty _, .base (.int _), kit_ty (by decide +kernel), _, rfl, ?_⟩
        refine ⟨_, rfl, rfl, false, bl_of (decide_eq_false (fun e => by cases e)), ?_⟩
        refine ⟨_, rfl, _, _, .type "int", .type "bool", false, rfl, .ty _, .base (.int _), kit_ty (by decide +kernel), _, rfl, ?_⟩
        refine ⟨_, rfl, _, _, .type "int", .type "int", true, rfl, .ty _, .base (.int _), kit_ty (by decide +kernel), _, rfl, ?_⟩
        exact ⟨_, rfl, _, _, .type "int", .type "int", true, rfl, .ty _, .base (.int _), kit_ty (by decide +kernel), true, rfl, _, rfl, _, _, .type "int", .type "bool", false, rfl, .ty _, .base (.int _), kit_ty (by decide +kernel), false, rfl, true, rfl, _, rfl, _, rfl, rfl, eq_self q⟩
      · refine ⟨_, rfl, _, _, .type "NoneType", .type "tuple", false, rfl, .ty _, .base .non, kit_ty (by decide +kernel), _, rfl, ?_⟩
        exact ⟨_, rfl, rfl, true, bl_of (decide_eq_true rfl), _, rfl, rfl, eq_self q⟩
      · refine ⟨_, rfl, _, _, .type "tuple", .type "tuple", true, rfl, .ty _, .base (.tup hb), kit_ty (by decide +kernel), _, rfl, ?_⟩
        refine ⟨_, rfl, _, _, .type "tuple", .type "tuple", true, rfl, .ty _, .base (.tup ha), kit_ty (by decide +kernel), _, rfl, ?_⟩
        refine ⟨_, rfl, _, _, rfl, .inr ⟨_, SqT.of ha, rfl⟩, _, rfl, _, _, rfl, .inr ⟨_, SqT.of hb, rfl⟩, rfl, false, ?_, ?_⟩
        · rw [el, decide_eq_true rfl]; rfl
        refine ⟨_, rfl, _, _, rfl, .inr ⟨_, SqT.of hb, rfl⟩, _, rfl, by omega, by omega, ?_⟩
        refine for_range (lo := 0) (n := ((ys.length : Nat) : Int).toNat) (fun i σ' H' => H' = H ∧ ∃ x2 : Option V, σ' = [some (.ref a), some (.ref b), x2]) ⟨rfl, none, rfl⟩ ?_ ?_
        · rintro i σ' H' hi ⟨rfl, x2, rfl⟩
          have hi2 : i < ys.length := by omega
          have hi1 : i < xs.length := by omega
          have gx : xs[i]? = some xs[i] := List.getElem?_eq_getElem hi1
          have gy : ys[i]? = some ys[i] := List.getElem?_eq_getElem hi2
          have e0 : ((0 : Int) + (i : Int)) = (i : Int) := Int.zero_add _
          refine ⟨_, rfl, _, rfl, .inr (.inl ⟨a, xs, _, _, rfl, rfl, SqT.of ha, at_of e0 gx, ?_⟩)⟩
          refine ⟨_, rfl, _, rfl, .inr (.inl ⟨b, ys, _, _, rfl, rfl, SqT.of hb, at_of e0 gy, ?_⟩)⟩
          exact ⟨_, _, rfl, hE i _ _ gx gy, true, rfl, rfl, _, rfl⟩
        · rintro σ' H' ⟨rfl, x2, rfl⟩
          exact q
end
end Vf

set_option Elab.async false
set_option linter.all false
set_option maxRecDepth 100000
set_option maxHeartbeats 4000000
namespace Vf
open PySem PySem.Spec PyProof.Rows L2 TL LamX
theorem tabs_kp {T : List (Addr × Str)} {d l : Addr} {H H' : Hp} (t : Tabs T H) (D : DI d l H) (k : Kp d H H') : Tabs T H' := fun p hp => by
  obtain ⟨_, _, i, b, s, c, _, h2⟩ := D
  obtain ⟨ps, h1, h3, h4⟩ := t p hp
  refine ⟨ps, k _ _ (fun z => by rw [z, h2] at h1; cases h1) h1, h3, fun pos cv hc => ?_⟩
  obtain ⟨c0, e1, e2⟩ := h4 pos cv hc
  exact ⟨c0, e1, k _ _ (fun z => by rw [z, h2] at e2; cases e2) e2⟩
theorem exL {H H' : Hp} (e : ExtN H H') {a : Addr} {xs : List V} (h : H a = some (.lst xs)) : H' a = some (.lst xs) := e _ _ h (fun _ z => by cases z)
theorem exT {H H' : Hp} (e : ExtN H H') {a : Addr} {xs : List V} (h : H a = some (.tup xs)) : H' a = some (.tup xs) := e _ _ h (fun _ z => by cases z)
theorem eqv_lw {H : Hp} {f g : Nat → Option Nat} {m : Nat} {v u : V} (h : LwV H v f g m) (k : LwV H u f g m) (hl : (Rw g m).length ≤ 1000) : Eqv 3 H v u := by
  unfold LwV at h k
  cases e : f m with
  | none =>
    rw [e] at h k
    exact .inl (.inr (.inr ⟨h, k⟩))
  | some y =>
    rw [e] at h k
    obtain ⟨B, p, rfl, e1, e2⟩ := h
    obtain ⟨C, q, rfl, e3, e4⟩ := k
    refine .inr ⟨B, C, _, _, rfl, rfl, e1, e3, rfl, by show 2 ≤ _; omega, fun i x z hx hz => ?_⟩
    match i, hx, hz with
    | 0, hx, hz =>
      have hx : nV y = x := Option.some.inj hx
      have hz : nV y = z := Option.some.inj hz
      subst hx hz
      exact .inl (.inr (.inl ⟨_, rfl, rfl⟩))
    | 1, hx, hz =>
      have hx : V.ref p = x := Option.some.inj hx
      have hz : V.ref q = z := Option.some.inj hz
      subst hx hz
      refine .inr ⟨p, q, _, _, rfl, rfl, e2, e4, rfl, by rw [List.length_map, List.length_reverse]; omega, fun j a b ha hb => ?_⟩
      rw [ha] at hb
      have hb := Option.some.inj hb
      subst hb
      rw [List.getElem?_map] at ha
      cases h : (Rw g m).reverse[j]? with
      | none => rw [h] at ha; cases ha
      | some t =>
        rw [h] at ha
        have ha : nV t = a := Option.some.inj ha
        subst ha
        exact .inl (.inr (.inl ⟨_, rfl, rfl⟩))
    | i + 2, hx, _ => cases hx
section
variable {P : Program} {w : World} {K : PySem.W.Frag} {mg : Str → Option Value} {base : Heap}
def spDue : Sp := fun vs H Q _ => ∃ (v : V) (n : Nat) (as : List Arc) (f g : Nat → Option Nat), vs = [v] ∧ NetV H v n as ∧ NetOk n as ∧ Bd (· ∈ as) f g ∧ ∀ H' x, Same H H' → LwV H' x f g (n - 1) → Q x H'
theorem ok_due (T : Txt K mg) : FnOk P w K mg base CX0 2 T.a_law_due T.d_law_due ["_law_net_here"] spDue := by
  have G_law_all_ways : FnOk P w K mg base CX0 1 T.a_law_all_ways T.d_law_all_ways ["_law_net_here"] spAll := ok_all T
  have G_law_by_nodes : FnOk P w K mg base CX0 1 T.a_law_by_nodes T.d_law_by_nodes ["_law_net_here"] spBest := ok_by_nodes T
  refine T.D_law_due.F.ok sc_law_due (fun vs H Q E h => ?_) (fun cdv A outer s H vs Q E hr h => ?_)
  · obtain ⟨v, n, as, f, g, rfl, _⟩ := h
    rfl
  · obtain ⟨v, n, as, f, g, rfl, nv, ok, bd, q⟩ := h
    obtain ⟨na, pa, us, rfl, e1, e2, lv⟩ := id nv
    have hn := ok.1
    have n7 := ok.2.1
    have up : ∀ a ∈ as, a.1 < a.2.1 := fun a h => (ok.2.2.2.1 a h).1
    have dn := bd.dn up
    refine ⟨_, (Evl.pss_cut (ps_if (pt_cmpR op_le (pe_ix ix_tup (pv 0) pe_int (fun _ _ => rfl)) pe_int (nomark _)) (pss_cons (ps_set (i := 1) sc_law_due.nd rfl (.inl rfl) (pe_call G_law_all_ways (hr.mono (by decide)) (by rfl) T.D_law_all_ways.G T.D_law_all_ways.F.kp T.D_law_all_ways.B .nil pass0 (pa_cons (pv 0) pa_nil)))
      (pss_one (ps_set (i := 2) sc_law_due.nd rfl (.inl rfl) (pe_ifExp (pt_truth (pv 1) (by intro _; rfl)) (pe_callB (call_minP (by rfl) (Room.units hr)) (by rfl) T.n_min (by decide +kernel) (pa_cons (pv 1) pa_nil)) pe_non)))) (pss_one (ps_set (i := 2) sc_law_due.nd rfl (.inl rfl) (pe_call G_law_by_nodes (hr.mono (by decide)) (by rfl) T.D_law_by_nodes.G T.D_law_by_nodes.F.kp T.D_law_by_nodes.B .nil pass0 (pa_cons (pv 0) pa_nil)))))
      (pss_cons (ps_if (pt_cmpR op_isN (pv 2) pe_non (nomark _)) (pss_one (ps_ret pe_non)) pss_nil)
      (pss_cons (ps_set (i := 3) sc_law_due.nd rfl (.inl rfl) (pe_callTy call_list_of (by rfl) T.n_list (by decide +kernel) (pa_cons (pe_ix ix_tup (pv 2) pe_int (fun _ _ => rfl)) pa_nil)))
      (pss_cons (ps_expr (pe_bm0 PySem.F.plainAttrs_list PySem.F.slot_list_reverse PySem.F.type_list_reverse mt_reverse (pv 3)))
      (pss_one (ps_ret (pe_tup (pa_cons (pe_ix ix_tup (pv 2) pe_int (fun _ _ => rfl)) (pa_cons (pe_callTy call_tuple_of (by rfl) T.n_tuple (by decide +kernel) (pa_cons (pv 3) pa_nil)) pa_nil))))))))), ?_⟩
    refine ⟨fun σ' H' => ∃ (x1 : Option V) (x : V), σ' = [some (.ref na), x1, some x, none] ∧ Same H H' ∧ BeV H' x (f (n - 1)) (Rw g (n - 1)), ?_, ?_⟩
    · refine ⟨_, rfl, na, _, 0, _, rfl, rfl, SqT.of e1, rfl, _, _, rfl, rfl, ?_⟩
      by_cases c : n ≤ 8
      · refine ⟨true, bTr (by omega), ?_⟩
        refine ⟨_, rfl, .ref na, n, as, rfl, nv, ok, c, fun H1 L us1 k1 eL lw => ?_⟩
        refine ⟨_, rfl, ?_⟩
        cases hf : f (n - 1) with
        | none =>
          have er : waysOf as n = [] := List.eq_nil_iff_forall_not_mem.mpr fun z hz => by
            obtain ⟨y, e, _⟩ := ways_le bd up hz
            rw [hf] at e; cases e
          have : us1 = [] := List.eq_nil_of_length_eq_zero (by rw [lw.1, er]; rfl)
          subst this
          exact ⟨false, .inl ⟨_, SqL.of eL, rfl⟩, _, .non, rfl, k1, rfl⟩
        | some y =>
          have hK := ways_has bd up ok.2.2.2.2 hn hf
          have hne : us1 ≠ [] := fun z => by
            have := lw.1
            rw [z] at this
            have h2 := List.length_pos_of_mem hK
            rw [← this] at h2
            exact absurd h2 (Nat.lt_irrefl 0)
          refine ⟨true, .inl ⟨_, SqL.of eL, by cases us1 with | nil => exact absurd rfl hne | cons a b => rfl⟩, ?_⟩
          obtain ⟨cs', m1, m2, m3, m4⟩ := min_of (K := K) eL lw hK (fun z hz => by
            obtain ⟨y', e, l⟩ := ways_le bd up hz
            rw [hf] at e
            have := Option.some.inj e
            subst this
            exact l)
          refine ⟨_, rfl, L, us1, cs', rfl, m1, m2, m3, fun i' ux c' h1 h2 h3 => ?_⟩
          exact ⟨_, ux, rfl, k1, m4 i' ux c' h1 h2 h3⟩
      · refine ⟨false, bFa (by omega), ?_⟩
        refine ⟨_, rfl, .ref na, n, as, f, g, rfl, nv, ok, bd, fun H1 x k1 hx => ⟨_, x, rfl, k1, hx⟩⟩
    · rintro σ' H1 ⟨x1, x, rfl, k1, hx⟩
      refine ⟨_, rfl, rfl, ?_⟩
      cases hf : f (n - 1) with
      | none =>
        rw [hf] at hx
        have hx : x = .non := hx
        subst hx
        exact ⟨true, bTr rfl, q _ _ k1 (by unfold LwV; rw [hf])⟩
      | some y =>
        rw [hf] at hx
        obtain ⟨p, pq, rfl, ep, epq⟩ := hx
        refine ⟨false, bFa (fun z => by cases z), ?_⟩
        refine ⟨_, rfl, p, _, 1, _, rfl, rfl, SqT.of ep, rfl, pq, _, rfl, .inr (SqT.of epq), fun L nL => ?_⟩
        have epq : H1 pq = some (.tup ((Rw g (n - 1)).map nV)) := epq
        have k2 := same_upd (o := .lst ((Rw g (n - 1)).map nV)) k1 nL
        have k21 := same_upd (o := .lst ((Rw g (n - 1)).map nV)) (Same.refl H1) nL
        have eL : upd H1 L (.lst ((Rw g (n - 1)).map nV)) L = some (.lst ((Rw g (n - 1)).map nV)) := upd_same
        have nLH := Same.free k1 nL
        generalize upd H1 L (.lst ((Rw g (n - 1)).map nV)) = H2 at k2 k21 eL
        have ep2 := k21 _ _ ep
        refine ⟨.ref L, rfl, .inl ⟨rfl, _, .inl (.inl eL)⟩, L, _, rfl, rfl, eL, ?_⟩
        have nLp : p ≠ L := ne_of_none ep nL
        have k3 := same_mut (o := .lst ((Rw g (n - 1)).map nV).reverse) k2 nLH
        have ep3 : upd H2 L (.lst ((Rw g (n - 1)).map nV).reverse) p = some (.tup [nV y, .ref pq]) := by rw [upd_ne nLp]; exact ep2
        have eL3 : upd H2 L (.lst ((Rw g (n - 1)).map nV).reverse) L = some (.lst ((Rw g (n - 1)).reverse.map nV)) := by rw [upd_same, List.map_reverse]
        generalize upd H2 L (.lst ((Rw g (n - 1)).map nV).reverse) = H3 at k3 ep3 eL3
        refine ⟨_, rfl, p, _, 0, _, rfl, rfl, SqT.of ep3, rfl, _, rfl, L, _, rfl, .inl ⟨SqL.of eL3, fun t1 n1 => ?_⟩⟩
        have k4 := same_upd (o := .tup ((Rw g (n - 1)).reverse.map nV)) k3 n1
        have et1 : upd H3 t1 (.tup ((Rw g (n - 1)).reverse.map nV)) t1 = some (.tup ((Rw g (n - 1)).reverse.map nV)) := upd_same
        generalize upd H3 t1 (.tup ((Rw g (n - 1)).reverse.map nV)) = H4 at k4 et1
        refine ⟨by show 2 ≤ sizeLine; decide, fun t2 n2 => ?_⟩
        refine q _ (.ref t2) (same_upd k4 n2) ?_
        unfold LwV
        rw [hf]
        exact ⟨t2, t1, rfl, upd_same, by rw [upd_ne (ne_of_none et1 n2)]; exact et1⟩
def spLaw (K : PySem.W.Frag) (Pt : Addr) : Sp := fun vs H Q _ => ∃ (a : Addr) (ns : List Int), vs = [.ref a] ∧ SqL K H a (ns.map V.int) ∧ ns.length ≤ 63 ∧ Tabs [(Pt, lamQ)] H ∧ ∀ H', Q (.bl true) H'
theorem ok_law (T : Txt K mg) {c Pt : Addr} (hcode : T.d_least_way.code = .ref c) (TB : TabB base mg c Pt) : FnOk P w K mg base CX0 5 T.a_law T.d_law ["_law_script"] (spLaw K Pt) := by
  have G_law_begin : FnOk P w K mg base CX0 1 T.a_law_begin T.d_law_begin ["_law_script"] (spBegin K) := ok_begin T
  have G_law_net : FnOk P w K mg base CX0 3 T.a_law_net T.d_law_net ["_law_d"] spNet := ok_net T
  have G_law_due : FnOk P w K mg base CX0 2 T.a_law_due T.d_law_due ["_law_net_here"] spDue := ok_due T
  have G_law_exact : FnOk P w K mg base CX0 4 T.a_law_exact T.d_law_exact ["_law_told", "_law_due_here"] (spExact 3) := ok_exact T 3
  have G_least_way : FnOk P w K mg base CX0 4 T.a_least_way T.d_least_way ["net"] (spLeast Pt) := ok_least_way T hcode TB
  refine T.D_law.F.ok sc_law (fun vs H Q E h => ?_) (fun cdv A outer s H vs Q E hr h => ?_)
  · obtain ⟨a, ns, rfl, _⟩ := h
    rfl
  · obtain ⟨a, ns, rfl, hS, hl, hT, q⟩ := h
    refine ⟨_, (pss_cons (ps_set (i := 1) sc_law.nd rfl (.inl rfl) (pe_call G_law_begin (hr.mono (by decide)) (by rfl) T.D_law_begin.G T.D_law_begin.F.kp T.D_law_begin.B .nil pass0 (pa_cons (pv 0) pa_nil)))
      (pss_cons (ps_set (i := 2) sc_law.nd rfl (.inl rfl) (pe_lst (pa_cons (pe_call G_law_net (hr.mono (by decide)) (by rfl) T.D_law_net.G T.D_law_net.F.kp T.D_law_net.B .nil pass0 (pa_cons (pv 1) pa_nil)) (pa_cons (pe_call G_law_net (hr.mono (by decide)) (by rfl) T.D_law_net.G T.D_law_net.F.kp T.D_law_net.B .nil pass0 (pa_cons (pv 1) pa_nil)) pa_nil))))
      (pss_cons (ps_for PassesOwn.never rfl (pi_range1 (by rfl) T.n_range (pa_cons pe_int pa_nil)) (pg_name (i := 3) sc_law.nd rfl (.inl rfl)) (pss_one (ps_for PassesOwn.never rfl (pi_list (pv 2)) (pg_name (i := 4) sc_law.nd rfl (.inl rfl)) (pss_one (ps_if (pt_not (pt_val (pe_call G_law_exact (hr.mono (by decide)) (by rfl) T.D_law_exact.G T.D_law_exact.F.kp T.D_law_exact.B .nil pass0 (pa_cons (pe_call G_least_way (hr.mono (by decide)) (by rfl) T.D_least_way.G T.D_least_way.F.kp T.D_least_way.B .nil pass0 (pa_cons (pv 4) pa_nil)) (pa_cons (pe_call G_law_due (hr.mono (by decide)) (by rfl) T.D_law_due.G T.D_law_due.F.kp T.D_law_due.B .nil pass0 (pa_cons (pv 4) pa_nil)) pa_nil))))) (pss_one (ps_ret pe_bl)) pss_nil)))))
      (pss_one (ps_ret pe_bl))))), ?_⟩
    refine ⟨_, rfl, a, ns, rfl, hS, hl, fun H1 d l s1 D1 => ?_⟩
    refine ⟨_, rfl, d, l, rfl, D1, fun H2 v1 n1 as1 k2 D2 nv1 ok1 => ?_⟩
    have T2 := tabs_kp (hT.ext s1) D1 k2
    refine ⟨_, rfl, d, l, rfl, D2, fun H3 v2 n2 as2 k3 D3 nv2 ok2 => ?_⟩
    have T3 := tabs_kp T2 D2 k3
    have nv1 := nv1.mono (kpTup D2 k3)
    refine ⟨by show 2 ≤ sizeLine; decide, fun L nL => ?_⟩
    have k4 := same_upd (o := .lst [v1, v2]) (Same.refl H3) nL
    have eL : upd H3 L (.lst [v1, v2]) L = some (.lst [v1, v2]) := upd_same
    have nv1 := nv1.mono fun _ _ e => k4 _ _ e
    have nv2 := nv2.mono fun _ _ e => k4 _ _ e
    have T4 := T3.ext k4
    generalize upd H3 L (.lst [v1, v2]) = H4 at eL nv1 nv2 T4
    let I : Hp → Prop := fun H' => H' L = some (.lst [v1, v2]) ∧ NetV H' v1 n1 as1 ∧ NetV H' v2 n2 as2 ∧ Tabs [(Pt, lamQ)] H'
    have one : ∀ (H5 : Hp) (x : V) (i : Nat), I H5 → [v1, v2][i]? = some x → ∃ n as, NetV H5 x n as ∧ NetOk n as := fun H5 x i hI hx => by
      match i, hx with
      | 0, hx =>
        have hx : v1 = x := Option.some.inj hx
        rw [← hx]; exact ⟨n1, as1, hI.2.1, ok1⟩
      | 1, hx =>
        have hx : v2 = x := Option.some.inj hx
        rw [← hx]; exact ⟨n2, as2, hI.2.2.1, ok2⟩
    refine ⟨2, rfl, by decide, by decide, ?_⟩
    refine for_it walk_range (fun i σ' H' => ∃ (x3 x4 : Option V), σ' = [some (.ref a), some (.ref d), some (.ref L), x3, x4] ∧ I H') ⟨none, none, rfl, eL, nv1, nv2, T4⟩ (fun _ _ _ _ _ => trivial) ?_ ?_
    · rintro i x σ' H5 H6 hi ⟨x3, x4, rfl, hI⟩ ⟨rfl, hx⟩
      refine ⟨_, rfl, L, rfl, ⟨_, SqL.of hI.1⟩, ?_⟩
      refine for_it (walk_list (K := K) (a := L) (xs := [v1, v2])) (fun j σ' H' => ∃ (x4 : Option V), σ' = [some (.ref a), some (.ref d), some (.ref L), some x, x4] ∧ I H') ⟨x4, rfl, hI⟩ ?_ ?_ ?_
      · rintro j σ' H' _ ⟨_, _, h⟩
        exact SqL.of h.1
      · rintro j y σ' H7 H8 hj ⟨x4, rfl, hI7⟩ ⟨rfl, hy⟩
        obtain ⟨n, as, nv, ok⟩ := one _ _ _ hI7 hy
        have n30 := ok.2.1
        refine ⟨_, rfl, y, n, as, rfl, nv, ok, hI7.2.2.2, fun H9 v f g x9 T9 bd lw => ?_⟩
        have nv9 := nv.mono fun _ _ e => exT x9 e
        refine ⟨_, rfl, y, n, as, f, g, rfl, nv9, ok, bd, fun H10 u k10 lu => ?_⟩
        have lw10 : LwV H10 v f g (n - 1) := by
          unfold LwV at lw ⊢
          cases e : f (n - 1) with
          | none => rw [e] at lw; exact lw
          | some z =>
            rw [e] at lw
            obtain ⟨B, p, h1, h2, h3⟩ := lw
            exact ⟨B, p, h1, k10 _ _ h2, k10 _ _ h3⟩
        have hlen := Rw_len (bd.dn fun a h => (ok.2.2.2.1 a h).1) (n - 1) (n - 1) (Nat.le_refl _)
        refine ⟨v, u, rfl, eqv_lw lw10 lu (by omega), true, rfl, _, rfl, k10 _ _ (exL x9 hI7.1), ?_, ?_, T9.ext k10⟩
        · exact hI7.2.1.mono fun _ _ e => k10 _ _ (exT x9 e)
        · exact hI7.2.2.1.mono fun _ _ e => k10 _ _ (exT x9 e)
      · rintro σ' H7 ⟨x4, rfl, hI7⟩
        exact ⟨_, _, rfl, hI7⟩
    · rintro σ' H5 ⟨x3, x4, rfl, hI⟩
      exact q _
end
theorem all_mk {l : PySem.W.OpenLaw} {w : World} {K : PySem.W.Frag} {h : Heap} {mg : Str → Option Value} {fa : Addr} (X : K.In h) (G : h.Ns mainGlobals mg) (hfa : mg "law" = some (.ref fa))
    {f_least_way : Addr} {od_least_way an_least_way : Option Addr} {sl_least_way : Array (Option Value)} {oc_least_way kV_least_way dc_least_way pm_least_way cd_least_way ct_least_way : Value}
    (a_least_way : PySem.W.nsIn K mainGlobals "least_way" = some (some (.ref f_least_way))) (l_least_way : K.lookup f_least_way = some ⟨oc_least_way, od_least_way, .func (PySem.W.fnOf "least_way" "least_way" (defArgs s_least_way) (defBody s_least_way) (defScope s_least_way) .none kV_least_way dc_least_way pm_least_way an_least_way cd_least_way ct_least_way), sl_least_way⟩) (c_least_way : PySem.W.codeIn K cd_least_way "least_way" = true) (k_least_way : PySem.W.keepIn K (.ref f_least_way) = true)
    {f_least_way_along : Addr} {od_least_way_along an_least_way_along : Option Addr} {sl_least_way_along : Array (Option Value)} {oc_least_way_along kV_least_way_along dc_least_way_along pm_least_way_along cd_least_way_along ct_least_way_along : Value}
    (a_least_way_along : PySem.W.nsIn K mainGlobals "least_way_along" = some (some (.ref f_least_way_along))) (l_least_way_along : K.lookup f_least_way_along = some ⟨oc_least_way_along, od_least_way_along, .func (PySem.W.fnOf "least_way_along" "least_way_along" (defArgs s_least_way_along) (defBody s_least_way_along) (defScope s_least_way_along) .none kV_least_way_along dc_least_way_along pm_least_way_along an_least_way_along cd_least_way_along ct_least_way_along), sl_least_way_along⟩) (c_least_way_along : PySem.W.codeIn K cd_least_way_along "least_way_along" = true) (k_least_way_along : PySem.W.keepIn K (.ref f_least_way_along) = true)
    {f_leading : Addr} {od_leading an_leading : Option Addr} {sl_leading : Array (Option Value)} {oc_leading kV_leading dc_leading pm_leading cd_leading ct_leading : Value}
    (a_leading : PySem.W.nsIn K mainGlobals "_leading" = some (some (.ref f_leading))) (l_leading : K.lookup f_leading = some ⟨oc_leading, od_leading, .func (PySem.W.fnOf "_leading" "_leading" (defArgs s_leading) (defBody s_leading) (defScope s_leading) .none kV_leading dc_leading pm_leading an_leading cd_leading ct_leading), sl_leading⟩) (c_leading : PySem.W.codeIn K cd_leading "_leading" = true) (k_leading : PySem.W.keepIn K (.ref f_leading) = true)
    {f_bounds_and_tails : Addr} {od_bounds_and_tails an_bounds_and_tails : Option Addr} {sl_bounds_and_tails : Array (Option Value)} {oc_bounds_and_tails kV_bounds_and_tails dc_bounds_and_tails pm_bounds_and_tails cd_bounds_and_tails ct_bounds_and_tails : Value}
    (a_bounds_and_tails : PySem.W.nsIn K mainGlobals "_bounds_and_tails" = some (some (.ref f_bounds_and_tails))) (l_bounds_and_tails : K.lookup f_bounds_and_tails = some ⟨oc_bounds_and_tails, od_bounds_and_tails, .func (PySem.W.fnOf "_bounds_and_tails" "_bounds_and_tails" (defArgs s_bounds_and_tails) (defBody s_bounds_and_tails) (defScope s_bounds_and_tails) .none kV_bounds_and_tails dc_bounds_and_tails pm_bounds_and_tails an_bounds_and_tails cd_bounds_and_tails ct_bounds_and_tails), sl_bounds_and_tails⟩) (c_bounds_and_tails : PySem.W.codeIn K cd_bounds_and_tails "_bounds_and_tails" = true) (k_bounds_and_tails : PySem.W.keepIn K (.ref f_bounds_and_tails) = true)
    {f_law_begin : Addr} {od_law_begin an_law_begin : Option Addr} {sl_law_begin : Array (Option Value)} {oc_law_begin kV_law_begin dc_law_begin pm_law_begin cd_law_begin ct_law_begin : Value}
    (a_law_begin : PySem.W.nsIn K mainGlobals "_law_begin" = some (some (.ref f_law_begin))) (l_law_begin : K.lookup f_law_begin = some ⟨oc_law_begin, od_law_begin, .func (PySem.W.fnOf "_law_begin" "_law_begin" (defArgs s_law_begin) (defBody s_law_begin) (defScope s_law_begin) .none kV_law_begin dc_law_begin pm_law_begin an_law_begin cd_law_begin ct_law_begin), sl_law_begin⟩) (c_law_begin : PySem.W.codeIn K cd_law_begin "_law_begin" = true) (k_law_begin : PySem.W.keepIn K (.ref f_law_begin) = true)
    {f_law_draw : Addr} {od_law_draw an_law_draw : Option Addr} {sl_law_draw : Array (Option Value)} {oc_law_draw kV_law_draw dc_law_draw pm_law_draw cd_law_draw ct_law_draw : Value}
    (a_law_draw : PySem.W.nsIn K mainGlobals "_law_draw" = some (some (.ref f_law_draw))) (l_law_draw : K.lookup f_law_draw = some ⟨oc_law_draw, od_law_draw, .func (PySem.W.fnOf "_law_draw" "_law_draw" (defArgs s_law_draw) (defBody s_law_draw) (defScope s_law_draw) .none kV_law_draw dc_law_draw pm_law_draw an_law_draw cd_law_draw ct_law_draw), sl_law_draw⟩) (c_law_draw : PySem.W.codeIn K cd_law_draw "_law_draw" = true) (k_law_draw : PySem.W.keepIn K (.ref f_law_draw) = true)
    {f_law_pick : Addr} {od_law_pick an_law_pick : Option Addr} {sl_law_pick : Array (Option Value)} {oc_law_pick kV_law_pick dc_law_pick pm_law_pick cd_law_pick ct_law_pick : Value}
    (a_law_pick : PySem.W.nsIn K mainGlobals "_law_pick" = some (some (.ref f_law_pick))) (l_law_pick : K.lookup f_law_pick = some ⟨oc_law_pick, od_law_pick, .func (PySem.W.fnOf "_law_pick" "_law_pick" (defArgs s_law_pick) (defBody s_law_pick) (defScope s_law_pick) .none kV_law_pick dc_law_pick pm_law_pick an_law_pick cd_law_pick ct_law_pick), sl_law_pick⟩) (c_law_pick : PySem.W.codeIn K cd_law_pick "_law_pick" = true) (k_law_pick : PySem.W.keepIn K (.ref f_law_pick) = true)
    {f_law_rare : Addr} {od_law_rare an_law_rare : Option Addr} {sl_law_rare : Array (Option Value)} {oc_law_rare kV_law_rare dc_law_rare pm_law_rare cd_law_rare ct_law_rare : Value}
    (a_law_rare : PySem.W.nsIn K mainGlobals "_law_rare" = some (some (.ref f_law_rare))) (l_law_rare : K.lookup f_law_rare = some ⟨oc_law_rare, od_law_rare, .func (PySem.W.fnOf "_law_rare" "_law_rare" (defArgs s_law_rare) (defBody s_law_rare) (defScope s_law_rare) .none kV_law_rare dc_law_rare pm_law_rare an_law_rare cd_law_rare ct_law_rare), sl_law_rare⟩) (c_law_rare : PySem.W.codeIn K cd_law_rare "_law_rare" = true) (k_law_rare : PySem.W.keepIn K (.ref f_law_rare) = true)
    {f_law_exact : Addr} {od_law_exact an_law_exact : Option Addr} {sl_law_exact : Array (Option Value)} {oc_law_exact kV_law_exact dc_law_exact pm_law_exact cd_law_exact ct_law_exact : Value}
    (a_law_exact : PySem.W.nsIn K mainGlobals "_law_exact" = some (some (.ref f_law_exact))) (l_law_exact : K.lookup f_law_exact = some ⟨oc_law_exact, od_law_exact, .func (PySem.W.fnOf "_law_exact" "_law_exact" (defArgs s_law_exact) (defBody s_law_exact) (defScope s_law_exact) .none kV_law_exact dc_law_exact pm_law_exact an_law_exact cd_law_exact ct_law_exact), sl_law_exact⟩) (c_law_exact : PySem.W.codeIn K cd_law_exact "_law_exact" = true) (k_law_exact : PySem.W.keepIn K (.ref f_law_exact) = true)
    {f_law_net : Addr} {od_law_net an_law_net : Option Addr} {sl_law_net : Array (Option Value)} {oc_law_net kV_law_net dc_law_net pm_law_net cd_law_net ct_law_net : Value}
    (a_law_net : PySem.W.nsIn K mainGlobals "_law_net" = some (some (.ref f_law_net))) (l_law_net : K.lookup f_law_net = some ⟨oc_law_net, od_law_net, .func (PySem.W.fnOf "_law_net" "_law_net" (defArgs s_law_net) (defBody s_law_net) (defScope s_law_net) .none kV_law_net dc_law_net pm_law_net an_law_net cd_law_net ct_law_net), sl_law_net⟩) (c_law_net : PySem.W.codeIn K cd_law_net "_law_net" = true) (k_law_net : PySem.W.keepIn K (.ref f_law_net) = true)
    {f_law_all_ways : Addr} {od_law_all_ways an_law_all_ways : Option Addr} {sl_law_all_ways : Array (Option Value)} {oc_law_all_ways kV_law_all_ways dc_law_all_ways pm_law_all_ways cd_law_all_ways ct_law_all_ways : Value}
    (a_law_all_ways : PySem.W.nsIn K mainGlobals "_law_all_ways" = some (some (.ref f_law_all_ways))) (l_law_all_ways : K.lookup f_law_all_ways = some ⟨oc_law_all_ways, od_law_all_ways, .func (PySem.W.fnOf "_law_all_ways" "_law_all_ways" (defArgs s_law_all_ways) (defBody s_law_all_ways) (defScope s_law_all_ways) .none kV_law_all_ways dc_law_all_ways pm_law_all_ways an_law_all_ways cd_law_all_ways ct_law_all_ways), sl_law_all_ways⟩) (c_law_all_ways : PySem.W.codeIn K cd_law_all_ways "_law_all_ways" = true) (k_law_all_ways : PySem.W.keepIn K (.ref f_law_all_ways) = true)
    {f_law_by_nodes : Addr} {od_law_by_nodes an_law_by_nodes : Option Addr} {sl_law_by_nodes : Array (Option Value)} {oc_law_by_nodes kV_law_by_nodes dc_law_by_nodes pm_law_by_nodes cd_law_by_nodes ct_law_by_nodes : Value}
    (a_law_by_nodes : PySem.W.nsIn K mainGlobals "_law_by_nodes" = some (some (.ref f_law_by_nodes))) (l_law_by_nodes : K.lookup f_law_by_nodes = some ⟨oc_law_by_nodes, od_law_by_nodes, .func (PySem.W.fnOf "_law_by_nodes" "_law_by_nodes" (defArgs s_law_by_nodes) (defBody s_law_by_nodes) (defScope s_law_by_nodes) .none kV_law_by_nodes dc_law_by_nodes pm_law_by_nodes an_law_by_nodes cd_law_by_nodes ct_law_by_nodes), sl_law_by_nodes⟩) (c_law_by_nodes : PySem.W.codeIn K cd_law_by_nodes "_law_by_nodes" = true) (k_law_by_nodes : PySem.W.keepIn K (.ref f_law_by_nodes) = true)
    {f_law_due : Addr} {od_law_due an_law_due : Option Addr} {sl_law_due : Array (Option Value)} {oc_law_due kV_law_due dc_law_due pm_law_due cd_law_due ct_law_due : Value}
    (a_law_due : PySem.W.nsIn K mainGlobals "_law_due" = some (some (.ref f_law_due))) (l_law_due : K.lookup f_law_due = some ⟨oc_law_due, od_law_due, .func (PySem.W.fnOf "_law_due" "_law_due" (defArgs s_law_due) (defBody s_law_due) (defScope s_law_due) .none kV_law_due dc_law_due pm_law_due an_law_due cd_law_due ct_law_due), sl_law_due⟩) (c_law_due : PySem.W.codeIn K cd_law_due "_law_due" = true) (k_law_due : PySem.W.keepIn K (.ref f_law_due) = true)
    {f_law : Addr} {od_law an_law : Option Addr} {sl_law : Array (Option Value)} {oc_law kV_law dc_law pm_law cd_law ct_law : Value}
    (a_law : PySem.W.nsIn K mainGlobals "law" = some (some (.ref f_law))) (l_law : K.lookup f_law = some ⟨oc_law, od_law, .func (PySem.W.fnOf "law" "law" (defArgs s_law) (defBody s_law) (defScope s_law) .none kV_law dc_law pm_law an_law cd_law ct_law), sl_law⟩) (c_law : PySem.W.codeIn K cd_law "law" = true) (k_law : PySem.W.keepIn K (.ref f_law) = true)
    (n_bool : PySem.W.nsIn K mainGlobals "bool" = some none)
    (n_int : PySem.W.nsIn K mainGlobals "int" = some none)
    (n_isinstance : PySem.W.nsIn K mainGlobals "isinstance" = some none)
    (n_len : PySem.W.nsIn K mainGlobals "len" = some none)
    (n_list : PySem.W.nsIn K mainGlobals "list" = some none)
    (n_min : PySem.W.nsIn K mainGlobals "min" = some none)
    (n_range : PySem.W.nsIn K mainGlobals "range" = some none)
    (n_str : PySem.W.nsIn K mainGlobals "str" = some none)
    (n_tuple : PySem.W.nsIn K mainGlobals "tuple" = some none)
    {cB : Addr} (e_lam : cd_least_way = .ref cB) (hd_lam : PySem.W.codeHdIn K cB (He.tabOf K cB) = true) (no_lam : K.lookup (He.tabOf K cB) = none) (ht_lam : h.get? (He.tabOf K cB) = some { cls := .none, data := .fields #[] })
    : LamX.LawAtS l w K CX0 5 63 "_law_script" mg fa h := by
  have e := hfa.symm.trans (PySem.W.mg_of X G a_law)
  cases e
  have F_least_way := fun_mk (st := s_least_way) l_least_way c_least_way k_least_way
  have b_least_way := F_least_way.binds (ps := ["net"]) fun _ _ _ _ _ _ us hl => match us, hl with | [_], _ => rfl
  have F_least_way_along := fun_mk (st := s_least_way_along) l_least_way_along c_least_way_along k_least_way_along
  have b_least_way_along := F_least_way_along.binds (ps := ["places", "leads"]) fun _ _ _ _ _ _ us hl => match us, hl with | [_, _], _ => rfl
  have F_leading := fun_mk (st := s_leading) l_leading c_leading k_leading
  have b_leading := F_leading.binds (ps := ["net"]) fun _ _ _ _ _ _ us hl => match us, hl with | [_], _ => rfl
  have F_bounds_and_tails := fun_mk (st := s_bounds_and_tails) l_bounds_and_tails c_bounds_and_tails k_bounds_and_tails
  have b_bounds_and_tails := F_bounds_and_tails.binds (ps := ["places", "leads"]) fun _ _ _ _ _ _ us hl => match us, hl with | [_, _], _ => rfl
  have F_law_begin := fun_mk (st := s_law_begin) l_law_begin c_law_begin k_law_begin
  have b_law_begin := F_law_begin.binds (ps := ["_law_script"]) fun _ _ _ _ _ _ us hl => match us, hl with | [_], _ => rfl
  have F_law_draw := fun_mk (st := s_law_draw) l_law_draw c_law_draw k_law_draw
  have b_law_draw := F_law_draw.binds (ps := ["_law_d", "_law_many"]) fun _ _ _ _ _ _ us hl => match us, hl with | [_, _], _ => rfl
  have F_law_pick := fun_mk (st := s_law_pick) l_law_pick c_law_pick k_law_pick
  have b_law_pick := F_law_pick.binds (ps := ["_law_d", "_law_row"]) fun _ _ _ _ _ _ us hl => match us, hl with | [_, _], _ => rfl
  have F_law_rare := fun_mk (st := s_law_rare) l_law_rare c_law_rare k_law_rare
  have b_law_rare := F_law_rare.binds (ps := ["_law_d", "_law_many"]) fun _ _ _ _ _ _ us hl => match us, hl with | [_, _], _ => rfl
  have F_law_exact := fun_mk (st := s_law_exact) l_law_exact c_law_exact k_law_exact
  have b_law_exact := F_law_exact.binds (ps := ["_law_told", "_law_due_here"]) fun _ _ _ _ _ _ us hl => match us, hl with | [_, _], _ => rfl
  have F_law_net := fun_mk (st := s_law_net) l_law_net c_law_net k_law_net
  have b_law_net := F_law_net.binds (ps := ["_law_d"]) fun _ _ _ _ _ _ us hl => match us, hl with | [_], _ => rfl
  have F_law_all_ways := fun_mk (st := s_law_all_ways) l_law_all_ways c_law_all_ways k_law_all_ways
  have b_law_all_ways := F_law_all_ways.binds (ps := ["_law_net_here"]) fun _ _ _ _ _ _ us hl => match us, hl with | [_], _ => rfl
  have F_law_by_nodes := fun_mk (st := s_law_by_nodes) l_law_by_nodes c_law_by_nodes k_law_by_nodes
  have b_law_by_nodes := F_law_by_nodes.binds (ps := ["_law_net_here"]) fun _ _ _ _ _ _ us hl => match us, hl with | [_], _ => rfl
  have F_law_due := fun_mk (st := s_law_due) l_law_due c_law_due k_law_due
  have b_law_due := F_law_due.binds (ps := ["_law_net_here"]) fun _ _ _ _ _ _ us hl => match us, hl with | [_], _ => rfl
  have F_law := fun_mk (st := s_law) l_law c_law k_law
  have b_law := F_law.binds (ps := ["_law_script"]) fun _ _ _ _ _ _ us hl => match us, hl with | [_], _ => rfl
  exact ⟨PySem.W.fnOf "law" "law" (defArgs s_law) (defBody s_law) (defScope s_law) .none kV_law dc_law pm_law an_law cd_law ct_law, [(cB, He.tabOf K cB)], spLaw K (He.tabOf K cB), fun p hp => by rw [List.mem_singleton.mp hp]; exact ht_lam, fun p hp => by rw [List.mem_singleton.mp hp]; exact no_lam, fun p hp => by rw [List.mem_singleton.mp hp]; exact PySem.W.codeHd_of_K X hd_lam, fun s v => .of_eq rfl, fun H a ns hl _ hp hS => ⟨a, ns, rfl, hS, hl, fun p hp2 => (by rw [List.mem_singleton.mp hp2]; exact LamX.TabS.nil (hp _ (List.mem_singleton.mpr rfl))), fun _ => rfl⟩, fun base _ _ hB => ok_law (c := cB) (Pt := He.tabOf K cB) (hcode := e_lam) (TB := hB _ (List.mem_singleton.mpr rfl)) (T := {
    a_least_way := _,
    d_least_way := _,
    D_least_way := ⟨F_least_way, PySem.W.mg_of X G a_least_way, b_least_way, ⟨_, _, _, _, _, _, rfl⟩⟩,
    a_least_way_along := _,
    d_least_way_along := _,
    D_least_way_along := ⟨F_least_way_along, PySem.W.mg_of X G a_least_way_along, b_least_way_along, ⟨_, _, _, _, _, _, rfl⟩⟩,
    a_leading := _,
    d_leading := _,
    D_leading := ⟨F_leading, PySem.W.mg_of X G a_leading, b_leading, ⟨_, _, _, _, _, _, rfl⟩⟩,
    a_bounds_and_tails := _,
    d_bounds_and_tails := _,
    D_bounds_and_tails := ⟨F_bounds_and_tails, PySem.W.mg_of X G a_bounds_and_tails, b_bounds_and_tails, ⟨_, _, _, _, _, _, rfl⟩⟩,
    a_law_begin := _,
    d_law_begin := _,
    D_law_begin := ⟨F_law_begin, PySem.W.mg_of X G a_law_begin, b_law_begin, ⟨_, _, _, _, _, _, rfl⟩⟩,
    a_law_draw := _,
    d_law_draw := _,
    D_law_draw := ⟨F_law_draw, PySem.W.mg_of X G a_law_draw, b_law_draw, ⟨_, _, _, _, _, _, rfl⟩⟩,
    a_law_pick := _,
    d_law_pick := _,
    D_law_pick := ⟨F_law_pick, PySem.W.mg_of X G a_law_pick, b_law_pick, ⟨_, _, _, _, _, _, rfl⟩⟩,
    a_law_rare := _,
    d_law_rare := _,
    D_law_rare := ⟨F_law_rare, PySem.W.mg_of X G a_law_rare, b_law_rare, ⟨_, _, _, _, _, _, rfl⟩⟩,
    a_law_exact := _,
    d_law_exact := _,
    D_law_exact := ⟨F_law_exact, PySem.W.mg_of X G a_law_exact, b_law_exact, ⟨_, _, _, _, _, _, rfl⟩⟩,
    a_law_net := _,
    d_law_net := _,
    D_law_net := ⟨F_law_net, PySem.W.mg_of X G a_law_net, b_law_net, ⟨_, _, _, _, _, _, rfl⟩⟩,
    a_law_all_ways := _,
    d_law_all_ways := _,
    D_law_all_ways := ⟨F_law_all_ways, PySem.W.mg_of X G a_law_all_ways, b_law_all_ways, ⟨_, _, _, _, _, _, rfl⟩⟩,
    a_law_by_nodes := _,
    d_law_by_nodes := _,
    D_law_by_nodes := ⟨F_law_by_nodes, PySem.W.mg_of X G a_law_by_nodes, b_law_by_nodes, ⟨_, _, _, _, _, _, rfl⟩⟩,
    a_law_due := _,
    d_law_due := _,
    D_law_due := ⟨F_law_due, PySem.W.mg_of X G a_law_due, b_law_due, ⟨_, _, _, _, _, _, rfl⟩⟩,
    a_law := _,
    d_law := _,
    D_law := ⟨F_law, PySem.W.mg_of X G a_law, b_law, ⟨_, _, _, _, _, _, rfl⟩⟩,
    n_bool := PySem.W.mg_none_of X G n_bool,
    n_int := PySem.W.mg_none_of X G n_int,
    n_isinstance := PySem.W.mg_none_of X G n_isinstance,
    n_len := PySem.W.mg_none_of X G n_len,
    n_list := PySem.W.mg_none_of X G n_list,
    n_min := PySem.W.mg_none_of X G n_min,
    n_range := PySem.W.mg_none_of X G n_range,
    n_str := PySem.W.mg_none_of X G n_str,
    n_tuple := PySem.W.mg_none_of X G n_tuple })⟩
end Vf
open PySem PySem.W PyProof.Rows
set_option maxHeartbeats 0 in
theorem PySem.Challenge.cw_hushedpages_k01_least_ways_holds : PySem.Challenge.rw_hushedpages_k01_least_ways.Holds := by
  w_on; o_law; k_head; (case hw => w_witness2)
  k_fill
  refine LamX.walk_ofTs (l := PySem.Challenge.rw_hushedpages_k01_least_ways) (n := 63) (k := 5) (x := "_law_script") (CX := fun _ => L2.CX0) rfl (by decide) rfl ⟨rfl, by decide, by decide⟩ (fun w h Y => PySem.W.km_in_of Y) ?F (fun _ _ _ _ _ h => h)
  case F =>
    intro w mg fa h Y KX G hmg
    have hTs := PySem.W.km_tabs_of Y
    refine' Vf.all_mk KX G hmg ?a_least_way ?l_least_way ?c_least_way ?k_least_way ?a_least_way_along ?l_least_way_along ?c_least_way_along ?k_least_way_along ?a_leading ?l_leading ?c_leading ?k_leading ?a_bounds_and_tails ?l_bounds_and_tails ?c_bounds_and_tails ?k_bounds_and_tails ?a_law_begin ?l_law_begin ?c_law_begin ?k_law_begin ?a_law_draw ?l_law_draw ?c_law_draw ?k_law_draw ?a_law_pick ?l_law_pick ?c_law_pick ?k_law_pick ?a_law_rare ?l_law_rare ?c_law_rare ?k_law_rare ?a_law_exact ?l_law_exact ?c_law_exact ?k_law_exact ?a_law_net ?l_law_net ?c_law_net ?k_law_net ?a_law_all_ways ?l_law_all_ways ?c_law_all_ways ?k_law_all_ways ?a_law_by_nodes ?l_law_by_nodes ?c_law_by_nodes ?k_law_by_nodes ?a_law_due ?l_law_due ?c_law_due ?k_law_due ?a_law ?l_law ?c_law ?k_law ?n_bool ?n_int ?n_isinstance ?n_len ?n_list ?n_min ?n_range ?n_str ?n_tuple ?e_lam ?hd_lam ?no_lam ?ht_lam
    (case a_least_way => k_is)
    (case l_least_way => k_is)
    (case c_least_way => k_is)
    (case k_least_way => k_is)
    (case a_least_way_along => k_is)
    (case l_least_way_along => k_is)
    (case c_least_way_along => k_is)
    (case k_least_way_along => k_is)
    (case a_leading => k_is)
    (case l_leading => k_is)
    (case c_leading => k_is)
    (case k_leading => k_is)
    (case a_bounds_and_tails => k_is)
    (case l_bounds_and_tails => k_is)
    (case c_bounds_and_tails => k_is)
    (case k_bounds_and_tails => k_is)
    (case a_law_begin => k_is)
    (case l_law_begin => k_is)
    (case c_law_begin => k_is)
    (case k_law_begin => k_is)
    (case a_law_draw => k_is)
    (case l_law_draw => k_is)
    (case c_law_draw => k_is)
    (case k_law_draw => k_is)
    (case a_law_pick => k_is)
    (case l_law_pick => k_is)
    (case c_law_pick => k_is)
    (case k_law_pick => k_is)
    (case a_law_rare => k_is)
    (case l_law_rare => k_is)
    (case c_law_rare => k_is)
    (case k_law_rare => k_is)
    (case a_law_exact => k_is)
    (case l_law_exact => k_is)
    (case c_law_exact => k_is)
    (case k_law_exact => k_is)
    (case a_law_net => k_is)
    (case l_law_net => k_is)
    (case c_law_net => k_is)
    (case k_law_net => k_is)
    (case a_law_all_ways => k_is)
    (case l_law_all_ways => k_is)
    (case c_law_all_ways => k_is)
    (case k_law_all_ways => k_is)
    (case a_law_by_nodes => k_is)
    (case l_law_by_nodes => k_is)
    (case c_law_by_nodes => k_is)
    (case k_law_by_nodes => k_is)
    (case a_law_due => k_is)
    (case l_law_due => k_is)
    (case c_law_due => k_is)
    (case k_law_due => k_is)
    (case a_law => k_is)
    (case l_law => k_is)
    (case c_law => k_is)
    (case k_law => k_is)
    (case n_bool => k_is)
    (case n_int => k_is)
    (case n_isinstance => k_is)
    (case n_len => k_is)
    (case n_list => k_is)
    (case n_min => k_is)
    (case n_range => k_is)
    (case n_str => k_is)
    (case n_tuple => k_is)
    (case e_lam => exact rfl)
    (case hd_lam => kernel_rfl)
    (case no_lam => kernel_rfl)
    (case ht_lam => exact hTs _ (List.mem_of_elem_eq_true (by kernel_rfl)))
