import PyProof.Rows.All
import Wide.All
import OpenK.AllK
import Wide.FinOn
import HandS.ForMost
import HandS.IsInst
import HandS.Conv
import HandS.Evl
import PyProof.StrBlock2
import HandS.ExcInit
import HandS.ExcIs
import HandS.ExcField
import HandS.Wide
import HandS.Lambda
import HandS.Walk
import KE.BitLaws
import HandS.Style
import HandS.EndTab
import HandS.HeadHook4
import PySem.Challenge.RW_hushedpages_k03_whole_bounds_shut_out
set_option Elab.async false
set_option linter.all false
set_option maxRecDepth 100000
set_option maxHeartbeats 4000000
namespace Vf
open PySem PySem.Spec PyProof.Rows L2
def topS (i : Nat) : Stmt := PySem.Challenge.pw_hushedpages_k03_whole_bounds_shut_out.main.body.getD i (.Pass ⟨0, 0, 0, 0⟩)
abbrev s_bounds_of : Stmt := topS 1
theorem sc_bounds_of : FnScope ["net", "leading", "nodes", "bounds", "node"] ["net"] (defScope s_bounds_of) := ⟨rfl, rfl, rfl, by decide +kernel, rfl, by decide +kernel, by decide +kernel⟩
abbrev s_judge_bounds : Stmt := topS 2
theorem sc_judge_bounds : FnScope ["net", "total", "bounds", "many", "arcs", "tail", "head", "cost"] ["net", "total", "bounds"] (defScope s_judge_bounds) := ⟨rfl, rfl, rfl, by decide +kernel, rfl, by decide +kernel, by decide +kernel⟩
abbrev s_leading : Stmt := topS 3
theorem sc_leading : FnScope ["net", "many", "arcs", "leading", "tail", "head", "cost", "_"] ["net"] (defScope s_leading) := ⟨rfl, rfl, rfl, by decide +kernel, rfl, by decide +kernel, by decide +kernel⟩
abbrev s_bounds_and_tails : Stmt := topS 4
theorem sc_bounds_and_tails : FnScope ["places", "leads", "bounds", "tails", "tail", "head", "cost", "total"] ["places", "leads"] (defScope s_bounds_and_tails) := ⟨rfl, rfl, rfl, by decide +kernel, rfl, by decide +kernel, by decide +kernel⟩
abbrev s_law_begin : Stmt := topS 6
theorem sc_law_begin : FnScope ["_law_script"] ["_law_script"] (defScope s_law_begin) := ⟨rfl, rfl, rfl, by decide +kernel, rfl, by decide +kernel, by decide +kernel⟩
abbrev s_law_draw : Stmt := topS 7
theorem sc_law_draw : FnScope ["_law_d", "_law_many", "_law_cell", "_law_found"] ["_law_d", "_law_many"] (defScope s_law_draw) := ⟨rfl, rfl, rfl, by decide +kernel, rfl, by decide +kernel, by decide +kernel⟩
abbrev s_law_exact : Stmt := topS 8
theorem sc_law_exact : FnScope ["_law_told", "_law_due", "_law_k"] ["_law_told", "_law_due"] (defScope s_law_exact) := ⟨rfl, rfl, rfl, by decide +kernel, rfl, by decide +kernel, by decide +kernel⟩
abbrev s_law_net : Stmt := topS 9
theorem sc_law_net : FnScope ["_law_d", "_law_many", "_law_arcs", "_law_tail", "_law_head"] ["_law_d"] (defScope s_law_net) := ⟨rfl, rfl, rfl, by decide +kernel, rfl, by decide +kernel, by decide +kernel⟩
abbrev s_law_totals : Stmt := topS 10
theorem sc_law_totals : FnScope ["_law_net_here", "_law_last", "_law_costs", "_law_tail", "_law_head", "_law_cost", "_law_found", "_law_mask", "_law_nodes", "_law_total", "_law_k"] ["_law_net_here", "_law_last"] (defScope s_law_totals) := ⟨rfl, rfl, rfl, by decide +kernel, rfl, by decide +kernel, by decide +kernel⟩
abbrev s_law : Stmt := topS 11
theorem sc_law : FnScope ["_law_script", "_law_d", "_law_net_here", "_law_due", "_law_node", "_law_totals_here", "_law_turn", "_law_paper", "_law_low", "_law_claim"] ["_law_script"] (defScope s_law) := ⟨rfl, rfl, rfl, by decide +kernel, rfl, by decide +kernel, by decide +kernel⟩
structure DefAt (K : PySem.W.Frag) (mg : Str → Option Value) (x : Str) (st : Stmt) (ps : List Str) (f : Addr) (fd : FuncData) : Prop where
  F : Fun K x x st f fd
  G : mg x = some (.ref f)
  B : Binds K fd ps []
  E : ∃ kV doc pm an cdv ct, fd = PySem.W.fnOf x x (defArgs st) (defBody st) (defScope st) .none kV doc pm an cdv ct
structure Txt (K : PySem.W.Frag) (mg : Str → Option Value) where
  a_bounds_of : Addr
  d_bounds_of : FuncData
  D_bounds_of : DefAt K mg "bounds_of" s_bounds_of ["net"] a_bounds_of d_bounds_of
  a_judge_bounds : Addr
  d_judge_bounds : FuncData
  D_judge_bounds : DefAt K mg "judge_bounds" s_judge_bounds ["net", "total", "bounds"] a_judge_bounds d_judge_bounds
  a_leading : Addr
  d_leading : FuncData
  D_leading : DefAt K mg "_leading" s_leading ["net"] a_leading d_leading
  a_bounds_and_tails : Addr
  d_bounds_and_tails : FuncData
  D_bounds_and_tails : DefAt K mg "_bounds_and_tails" s_bounds_and_tails ["places", "leads"] a_bounds_and_tails d_bounds_and_tails
  a_law_begin : Addr
  d_law_begin : FuncData
  D_law_begin : DefAt K mg "_law_begin" s_law_begin ["_law_script"] a_law_begin d_law_begin
  a_law_draw : Addr
  d_law_draw : FuncData
  D_law_draw : DefAt K mg "_law_draw" s_law_draw ["_law_d", "_law_many"] a_law_draw d_law_draw
  a_law_exact : Addr
  d_law_exact : FuncData
  D_law_exact : DefAt K mg "_law_exact" s_law_exact ["_law_told", "_law_due"] a_law_exact d_law_exact
  a_law_net : Addr
  d_law_net : FuncData
  D_law_net : DefAt K mg "_law_net" s_law_net ["_law_d"] a_law_net d_law_net
  a_law_totals : Addr
  d_law_totals : FuncData
  D_law_totals : DefAt K mg "_law_totals" s_law_totals ["_law_net_here", "_law_last"] a_law_totals d_law_totals
  a_law : Addr
  d_law : FuncData
  D_law : DefAt K mg "law" s_law ["_law_script"] a_law d_law
  n_bool : mg "bool" = none
  n_int : mg "int" = none
  n_isinstance : mg "isinstance" = none
  n_len : mg "len" = none
  n_list : mg "list" = none
  n_min : mg "min" = none
  n_range : mg "range" = none
  n_str : mg "str" = none
  n_tuple : mg "tuple" = none
/-! ### the dice -/
/-- at d the dice, at l the script's copy -/
structure DI (d l : Addr) (H : Hp) : Prop where
  ne : l ≠ d
  sc : ∃ ns : List Int, H l = some (.lst (ns.map V.int))
  st : ∃ i b s c : Int, 0 ≤ i ∧ H d = some (.lst [.ref l, .int i, .int b, .int s, .int c])
/-- all but the dice stands -/
def Kp (d : Addr) (H H' : Hp) : Prop := ∀ b o, b ≠ d → H b = some o → H' b = some o
theorem Kp.refl (d : Addr) (H : Hp) : Kp d H H := fun _ _ _ h => h
theorem Kp.trans {d : Addr} {H H1 H2 : Hp} (a : Kp d H H1) (b : Kp d H1 H2) : Kp d H H2 := fun x o n h => b x o n (a x o n h)
theorem Kp.upd {d : Addr} {H H' : Hp} {o : HO} (a : Kp d H H') : Kp d H (upd H' d o) := fun x u n h => by
  rw [upd_ne n]; exact a x u n h
theorem Kp.new {d p : Addr} {H H' : Hp} {o : HO} (a : Kp d H H') (hp : H' p = none) : Kp d H (L2.upd H' p o) := fun x u n h => by
  have h2 := a x u n h
  rw [upd_ne (ne_of_none h2 hp)]; exact h2
theorem Kp.mut {d p : Addr} {H H' : Hp} {o : HO} (a : Kp d H H') (hp : H p = none) : Kp d H (L2.upd H' p o) := fun x u n h => by
  rw [upd_ne (ne_of_none h hp)]; exact a x u n h
theorem Kp.sq {K : PySem.W.Frag} {d a : Addr} {H H' : Hp} {xs : List V} (k : Kp d H H') (n : a ≠ d) (h : SqL K H a xs) : SqL K H' a xs := by
  rcases h with (h | ⟨o, h⟩) | h
  · exact .inl (.inl (k _ _ n h))
  · exact .inl (.inr ⟨o, k _ _ n h⟩)
  · exact .inr h
theorem DI.keep {d l : Addr} {H H' : Hp} (h : DI d l H) (e : ∀ b o, H b = some o → H' b = some o) : DI d l H' := by
  obtain ⟨n, ⟨ns, h1⟩, i, b, s, c, h0, h2⟩ := h
  exact ⟨n, ⟨ns, e _ _ h1⟩, i, b, s, c, h0, e _ _ h2⟩
theorem DI.at {d l p : Addr} {H : Hp} {o : HO} (h : DI d l H) (n1 : p ≠ d) (n2 : p ≠ l) : DI d l (upd H p o) := by
  obtain ⟨n, ⟨ns, h1⟩, i, b, s, c, h0, h2⟩ := h
  exact ⟨n, ⟨ns, by rw [upd_ne n2.symm]; exact h1⟩, i, b, s, c, h0, by rw [upd_ne n1.symm]; exact h2⟩
theorem DI.new {d l p : Addr} {H : Hp} {o : HO} (h : DI d l H) (hp : H p = none) : DI d l (upd H p o) :=
  h.keep fun b u e => by rw [upd_ne (ne_of_none e hp)]; exact e
theorem DI.nd {d l p : Addr} {H : Hp} (h : DI d l H) (hp : H p = none) : p ≠ d ∧ p ≠ l := by
  obtain ⟨n, ⟨ns, h1⟩, i, b, s, c, h0, h2⟩ := h
  exact ⟨fun e => (by rw [e, h2] at hp; cases hp), fun e => (by rw [e, h1] at hp; cases hp)⟩
theorem DI.set {d l : Addr} {H : Hp} {i b s c : Int} (h : DI d l H) (h0 : 0 ≤ i) : DI d l (upd H d (.lst [.ref l, .int i, .int b, .int s, .int c])) := by
  obtain ⟨n, ⟨ns, h1⟩, _⟩ := h
  exact ⟨n, ⟨ns, by rw [upd_ne n]; exact h1⟩, i, b, s, c, h0, upd_same⟩
section
variable {P : Program} {w : World} {K : PySem.W.Frag} {mg : Str → Option Value} {base : Heap}
/-! ### begin -/
def spBegin (K : PySem.W.Frag) : Sp := fun vs H Q _ => ∃ (a : Addr) (ns : List Int), vs = [.ref a] ∧ SqL K H a (ns.map V.int) ∧ ns.length ≤ 63 ∧
  ∀ H' d l, Same H H' → DI d l H' → Q (.ref d) H'
theorem ok_begin (T : Txt K mg) : FnOk P w K mg base CX0 1 T.a_law_begin T.d_law_begin ["_law_script"] (spBegin K) := by
  refine T.D_law_begin.F.ok sc_law_begin (fun vs H Q E h => ?_) (fun cdv A outer s H vs Q E hr h => ?_)
  · obtain ⟨a, ns, rfl, _⟩ := h
    rfl
  · obtain ⟨a, ns, rfl, hS, hl, q⟩ := h
    refine ⟨_, (pss_one (ps_ret (pe_lst (pa_cons (pe_callTy call_list_of (by rfl) T.n_list (by decide +kernel) (pa_cons (pv 0) pa_nil)) (pa_cons pe_int (pa_cons pe_int (pa_cons pe_int (pa_cons pe_int pa_nil)))))))), ?_⟩
    refine ⟨_, rfl, a, _, rfl, .inl hS, fun l nl => ?_⟩
    refine ⟨by show 5 ≤ sizeLine; decide, fun d nd => ?_⟩
    refine q _ d l (fun b o e => ?_) ?_
    · have n1 : b ≠ l := ne_of_none e nl
      have e1 : upd H l (.lst (ns.map V.int)) b = some o := by rw [upd_ne n1]; exact e
      rw [upd_ne (ne_of_none e1 nd)]
      exact e1
    · have e1 : upd H l (.lst (ns.map V.int)) l = some (.lst (ns.map V.int)) := upd_same
      have n1 : l ≠ d := ne_of_none e1 nd
      exact ⟨n1, ⟨ns, by rw [upd_ne n1]; exact e1⟩, 0, 0, 7, 0, by decide, upd_same⟩
/-! ### draw -/
def spDraw : Sp := fun vs H Q _ => ∃ (d l : Addr) (m : Int), vs = [.ref d, .int m] ∧ DI d l H ∧ m ≤ 1000000 ∧
  ∀ H' r, Kp d H H' → DI d l H' → (m < 2 → r = 0) → (2 ≤ m → 0 ≤ r ∧ r < m) → Q (.int r) H'
theorem ok_draw (T : Txt K mg) : FnOk P w K mg base CX0 1 T.a_law_draw T.d_law_draw ["_law_d", "_law_many"] spDraw := by
  refine T.D_law_draw.F.ok sc_law_draw (fun vs H Q E h => ?_) (fun cdv A outer s H vs Q E hr h => ?_)
  · obtain ⟨d, l, m, rfl, _⟩ := h
    rfl
  · obtain ⟨d, l, m, rfl, hD, hm, q⟩ := h
    refine ⟨_, (pss_cons (ps_if (pt_cmpR op_lt (pv 1) pe_int (nomark _)) (pss_one (ps_ret pe_int)) pss_nil)
      (pss_cons (ps_set (i := 2) sc_law_draw.nd rfl (.inl rfl) (pe_op op_add (pe_op op_mul (pe_ix ix_list (pv 0) pe_int (fun _ _ => rfl)) pe_int) pe_int))
      (Evl.pss_cut (ps_if (PW.pt (pw_and (pt_cmpR op_eq (pe_ix ix_list (pv 0) pe_int (fun _ _ => rfl)) pe_int (nomark _)) (pw_and1 (pt_cmpR op_lt (pe_ix ix_list (pv 0) pe_int (fun _ _ => rfl)) (pe_callB call_len_seq (by rfl) T.n_len PySem.boot_len (pa_cons (pe_ix ix_list (pv 0) pe_int (fun _ _ => rfl)) pa_nil)) (nomark _))))) (pss_cons (ps_set (i := 2) sc_law_draw.nd rfl (.inl rfl) (pe_ix ix_list (pe_ix ix_list (pv 0) pe_int (fun _ _ => rfl)) (pe_ix ix_list (pv 0) pe_int (fun _ _ => rfl)) (fun _ _ => rfl)))
      (pss_cons (ps_asg (pe_op op_add (pe_ix ix_list (pv 0) pe_int (fun _ _ => rfl)) pe_int) (pg_sub (pv 0) pe_int set_list))
      (Evl.pss_cut (ps_if (pt_cmpR op_lt (pv 2) pe_int (nomark _)) (pss_one (ps_set (i := 2) sc_law_draw.nd rfl (.inl rfl) (pe_op op_sub pe_int (pe_op op_mul pe_int (pv 2))))) pss_nil)
      (pss_one (ps_if (pt_cmpR op_ge (pv 2) pe_int (nomark _)) (pss_cons (ps_set (i := 2) sc_law_draw.nd rfl (.inl rfl) (pe_op op_and (pv 2) (pe_op op_sub (pe_op op_shl pe_int pe_int) pe_int)))
      (pss_one (ps_asg (pv 2) (pg_sub (pv 0) pe_int set_list)))) pss_nil))))) pss_nil)
      (pss_cons (ps_if (pt_cmpR op_gt (pe_ix ix_list (pv 0) pe_int (fun _ _ => rfl)) pe_int (nomark _)) (pss_cons (ps_set (i := 3) sc_law_draw.nd rfl (.inl rfl) (pe_op op_modN (pe_callTy call_int1 (by rfl) T.n_int (by decide +kernel) (pa_cons (pe_ix ix_list (pv 0) pe_int (fun _ _ => rfl)) pa_nil)) (pv 1)))
      (pss_cons (ps_asg (pe_op op_fdivN (pe_ix ix_list (pv 0) pe_int (fun _ _ => rfl)) (pv 1)) (pg_sub (pv 0) pe_int set_list))
      (pss_one (ps_ret (pv 3))))) pss_nil)
      (pss_cons (ps_asg (pe_op op_add (pe_ix ix_list (pv 0) pe_int (fun _ _ => rfl)) pe_int) (pg_sub (pv 0) pe_int set_list))
      (pss_cons (ps_asg (pe_op op_modN (pe_callTy call_int1 (by rfl) T.n_int (by decide +kernel) (pa_cons (pe_op op_add (pe_op op_add (pe_op op_mul (pe_ix ix_list (pv 0) pe_int (fun _ _ => rfl)) pe_int) (pe_op op_mul (pv 2) pe_int)) (pe_op op_mul (pe_ix ix_list (pv 0) pe_int (fun _ _ => rfl)) pe_int)) pa_nil)) pe_int) (pg_sub (pv 0) pe_int set_list))
      (pss_one (ps_ret (pe_op op_modN (pe_callTy call_int1 (by rfl) T.n_int (by decide +kernel) (pa_cons (pe_op op_modN (pe_callTy call_int1 (by rfl) T.n_int (by decide +kernel) (pa_cons (pe_op op_add (pe_op op_add (pe_op op_mul (pe_ix ix_list (pv 0) pe_int (fun _ _ => rfl)) pe_int) (pe_op op_mul (pe_ix ix_list (pv 0) pe_int (fun _ _ => rfl)) pe_int)) pe_int) pa_nil)) pe_int) pa_nil)) (pv 1)))))))))), ?_⟩
    refine ⟨_, rfl, _, _, rfl, rfl, _, rfl, ite2 (fun e => ?_) (fun e => ?_)⟩
    · have e := of_decide_eq_true e
      exact q H 0 (Kp.refl d H) hD (fun _ => rfl) (fun z => by omega)
    have hm2 : 2 ≤ m := by
      have e2 : ¬ m < 2 := fun z => e (decide_eq_true z)
      omega
    have hmN : m ≠ 0 := by omega
    have hmA : m.natAbs < 1073741824 := by omega
    have fm : ∀ z : Int, 0 ≤ z.fmod m ∧ z.fmod m < m := fun z => ⟨Int.fmod_nonneg_of_pos z (by omega), Int.fmod_lt_of_pos z (by omega)⟩
    obtain ⟨n, ⟨ns, h1⟩, i, b, s5, c, h0, h2⟩ := id hD
    -- cell = d[4] * 977 + 3
    refine ⟨_, rfl, _, _, _, _, rfl, rfl, SqL.of h2, rfl, _, _, rfl, rfl, .inr ⟨by decide, by decide⟩, _, _, rfl, rfl, ?_⟩
    refine ⟨fun σ' H' => ∃ (cell : Int) (x3 : Option V), σ' = [some (.ref d), some (.int m), some (.int cell), x3] ∧ Kp d H H' ∧ DI d l H', ?_, ?_⟩
    · -- the cell
      refine ⟨_, rfl, _, _, _, _, rfl, rfl, SqL.of h2, rfl, rfl, _, rfl, ite2 (fun e1 => ?_) (fun e1 => ?_)⟩
      · refine ⟨_, rfl, _, _, _, _, rfl, rfl, SqL.of h2, rfl, _, rfl, _, _, _, _, rfl, rfl, SqL.of h2, rfl, _, _, rfl, .inl (SqL.of h1), _, _, rfl, rfl, _, rfl, ite2 (fun e2 => ?_) (fun e2 => ?_)⟩
        · have e2 := of_decide_eq_true e2
          rw [List.length_map] at e2
          obtain ⟨j, rfl⟩ : ∃ j : Nat, i = (j : Int) := ⟨i.toNat, by omega⟩
          have hj : j < ns.length := by omega
          have gj : (ns.map V.int)[j]? = some (.int ns[j]) := by
            rw [List.getElem?_map, List.getElem?_eq_getElem hj]; rfl
          refine ⟨_, rfl, _, _, _, _, rfl, rfl, SqL.of h2, rfl, _, rfl, _, _, _, _, rfl, rfl, SqL.of h2, rfl, _, _, _, _, rfl, rfl, SqL.of h1, atI_nat gj, ?_⟩
          -- d[1] = d[1] + 1
          refine ⟨_, rfl, _, _, _, _, rfl, rfl, SqL.of h2, rfl, _, _, rfl, rfl, _, rfl, _, _, _, _, rfl, rfl, h2, rfl, ?_⟩
          have D1 := hD.set (i := (j : Int) + 1) (b := b) (s := s5) (c := c) (by omega)
          have K1 : Kp d H (upd H d (.lst [.ref l, .int ((j : Int) + 1), .int b, .int s5, .int c])) := (Kp.refl d H).upd
          refine ⟨fun σ' H' => ∃ (cell : Int) (x3 : Option V), σ' = [some (.ref d), some (.int m), some (.int cell), x3] ∧ H' = upd H d (.lst [.ref l, .int ((j : Int) + 1), .int b, .int s5, .int c]), ?_, ?_⟩
          · refine ⟨_, rfl, _, _, rfl, rfl, _, rfl, ite2 (fun _ => ?_) (fun _ => ?_)⟩
            · exact ⟨_, rfl, _, _, rfl, rfl, .inl ⟨by decide, by decide⟩, _, _, rfl, rfl, _, _, rfl, rfl⟩
            · exact ⟨_, _, rfl, rfl⟩
          · rintro σ' H' ⟨cell, x3, rfl, rfl⟩
            refine ⟨_, rfl, _, _, rfl, rfl, _, rfl, ite2 (fun _ => ?_) (fun _ => ?_)⟩
            · refine ⟨_, rfl, _, _, rfl, rfl, ⟨by decide, by decide, by decide⟩, _, _, rfl, rfl, _, _, rfl, rfl, ?_⟩
              refine ⟨_, rfl, _, rfl, _, _, _, _, rfl, rfl, upd_same, rfl, ?_⟩
              exact ⟨_, _, rfl, K1.upd, D1.set (by omega)⟩
            · exact ⟨_, _, rfl, K1, D1⟩
        · exact ⟨_, _, rfl, Kp.refl d H, hD⟩
      · exact ⟨_, _, rfl, Kp.refl d H, hD⟩
    · rintro σ' H1 ⟨cell, x3, rfl, K1, D1⟩
      obtain ⟨n, ⟨ns, h1⟩, i, b, s5, c, h0, h2⟩ := id D1
      refine ⟨_, rfl, _, _, _, _, rfl, rfl, SqL.of h2, rfl, _, _, rfl, rfl, _, rfl, ite2 (fun e1 => ?_) (fun e1 => ?_)⟩
      · refine ⟨_, rfl, _, _, _, _, rfl, rfl, SqL.of h2, rfl, .inl ⟨_, rfl, _, rfl, _, _, rfl, rfl, hmN, ?_⟩⟩
        refine ⟨_, rfl, _, _, _, _, rfl, rfl, SqL.of h2, rfl, _, rfl, _, _, rfl, rfl, ⟨hmN, hmA⟩, _, rfl, _, _, _, _, rfl, rfl, h2, rfl, ?_⟩
        exact ⟨_, rfl, q _ _ K1.upd (D1.set h0) (fun z => by omega) (fun _ => fm _)⟩
      · refine ⟨_, rfl, _, _, _, _, rfl, rfl, SqL.of h2, rfl, _, _, rfl, rfl, _, rfl, _, _, _, _, rfl, rfl, h2, rfl, ?_⟩
        refine ⟨_, rfl, _, _, _, _, rfl, rfl, SqL.of upd_same, rfl, _, _, rfl, rfl, .inr ⟨by decide, by decide⟩, _, rfl, _, _, rfl, rfl, .inr ⟨by decide, by decide⟩, _, _, rfl, rfl, _, rfl, _, _, _, _, rfl, rfl, SqL.of upd_same, rfl, _, _, rfl, rfl, .inr ⟨by decide, by decide⟩, _, _, rfl, rfl, .inl ⟨_, rfl, _, _, rfl, rfl, (by show (2147483647 : Int) ≠ 0; decide), _, rfl, _, _, _, _, rfl, rfl, upd_same, rfl, ?_⟩⟩
        refine ⟨_, rfl, _, _, _, _, rfl, rfl, SqL.of upd_same, rfl, _, _, rfl, rfl, .inr ⟨by decide, by decide⟩, _, rfl, _, _, _, _, rfl, rfl, SqL.of upd_same, rfl, _, _, rfl, rfl, .inr ⟨by decide, by decide⟩, _, _, rfl, rfl, _, _, rfl, rfl, .inl ⟨_, rfl, _, _, rfl, rfl, (by show (2147483399 : Int) ≠ 0; decide), .inl ⟨_, rfl, _, rfl, _, _, rfl, rfl, hmN, ?_⟩⟩⟩
        exact q _ _ K1.upd.upd ((D1.set h0).set h0) (fun z => by omega) (fun _ => fm _)
end
end Vf

set_option Elab.async false
set_option linter.all false
set_option maxRecDepth 100000
set_option maxHeartbeats 4000000
namespace Vf
open PySem PySem.Spec PyProof.Rows L2 TL
/-! ### the mathematics of tokens -/
def sW : Str := "abcdefghijklmnopqrstuvwxyz0123456789.,:;!?'()+=<>*/"
def sL : Str := "abcdefghijklmnopqrstuvwxyz"
def sB : Str := " \n"
def sOdd : Str := "\"#$&-ABCDEFGHIJKLMNOPQRSTUVWXYZ[\\]^_`|~"
def cW (c : Nat) : Bool := decide (c ∈ sW.cps.toList)
def cL (c : Nat) : Bool := decide (c ∈ sL.cps.toList)
def cB (c : Nat) : Bool := decide (c ∈ sB.cps.toList)
/-- the text of these signs -/
def mkS (zs : List Nat) : Str := ⟨zs.toArray⟩
def sV (zs : List Nat) : V := .str (mkS zs)
theorem mkS_cps (zs : List Nat) : (mkS zs).cps.toList = zs := rfl
theorem mkS_of (z : Str) : mkS z.cps.toList = z := rfl
theorem mkS_len (zs : List Nat) : (mkS zs).length = zs.length := by simp [mkS, Str.length]
theorem len_cps (z : Str) : z.length = z.cps.toList.length := by simp [Str.length]
theorem mkS_app (a b : List Nat) : mkS a ++ mkS b = mkS (a ++ b) := by
  have h : (mkS a ++ mkS b).cps.toList = a ++ b := by rw [Str.cps_append, Array.toList_append]; rfl
  rw [← h]
  rfl
theorem mkS_inj {a b : List Nat} (h : mkS a = mkS b) : a = b := by
  have h2 := congrArg (fun z : Str => z.cps.toList) h
  exact h2
theorem sW_list : sW.cps.toList = [97,98,99,100,101,102,103,104,105,106,107,108,109,110,111,112,113,114,115,116,117,118,119,120,121,122,48,49,50,51,52,53,54,55,56,57,46,44,58,59,33,63,39,40,41,43,61,60,62,42,47] := by decide +kernel
theorem sL_list : sL.cps.toList = [97,98,99,100,101,102,103,104,105,106,107,108,109,110,111,112,113,114,115,116,117,118,119,120,121,122] := by decide +kernel
theorem sB_list : sB.cps.toList = [32, 10] := by decide +kernel
theorem cL_W {c : Nat} (h : cL c = true) : cW c = true := by
  have h1 := of_decide_eq_true h
  refine decide_eq_true ?_
  rw [sL_list] at h1
  rw [sW_list]
  rw [show ([97,98,99,100,101,102,103,104,105,106,107,108,109,110,111,112,113,114,115,116,117,118,119,120,121,122,48,49,50,51,52,53,54,55,56,57,46,44,58,59,33,63,39,40,41,43,61,60,62,42,47] : List Nat) = [97,98,99,100,101,102,103,104,105,106,107,108,109,110,111,112,113,114,115,116,117,118,119,120,121,122] ++ [48,49,50,51,52,53,54,55,56,57,46,44,58,59,33,63,39,40,41,43,61,60,62,42,47] from rfl]
  exact List.mem_append_left _ h1
theorem cW_B {c : Nat} (h : cW c = true) : cB c = false := by
  refine decide_eq_false fun h2 => ?_
  rw [sB_list] at h2
  have h1 := of_decide_eq_true h
  rw [sW_list] at h1
  simp only [List.mem_cons, List.not_mem_nil, or_false] at h2
  rcases h2 with rfl | rfl
  · exact absurd h1 (by decide)
  · exact absurd h1 (by decide)
theorem cW_at : cW 64 = false := by
  unfold cW
  rw [sW_list]
  decide
theorem cB_at : cB 64 = false := by
  unfold cB
  rw [sB_list]
  decide
theorem cW_ne {c : Nat} (h : cW c = true) : c ≠ 64 := fun e => by
  rw [e, cW_at] at h
  cases h
theorem drop_le {α : Type} (p : α → Bool) : ∀ l : List α, (l.dropWhile p).length ≤ l.length
  | [] => Nat.le_refl _
  | c :: r => by
    rw [List.dropWhile_cons]
    split
    · exact Nat.le_trans (drop_le p r) (Nat.le_succ _)
    · exact Nat.le_refl _
/-- the tokens of a text -/
def tokF : Nat → List Nat → List (List Nat)
  | 0, _ => []
  | _ + 1, [] => []
  | n + 1, c :: r =>
    if cB c then tokF n r else if c = 64 then (c :: r.takeWhile cL) :: tokF n (r.dropWhile cL)
    else if cW c then (c :: r.takeWhile cW) :: tokF n (r.dropWhile cW) else [c] :: tokF n r
theorem tokF_more : ∀ (n m : Nat) (zs : List Nat), zs.length ≤ n → zs.length ≤ m → tokF n zs = tokF m zs
  | 0, 0, _, _, _ => rfl
  | 0, m + 1, zs, h, _ => by
    have e : zs = [] := List.length_eq_zero_iff.mp (Nat.le_zero.mp h)
    subst e
    rfl
  | n + 1, 0, zs, _, h => by
    have e : zs = [] := List.length_eq_zero_iff.mp (Nat.le_zero.mp h)
    subst e
    rfl
  | n + 1, m + 1, [], _, _ => rfl
  | n + 1, m + 1, c :: r, h1, h2 => by
    have a1 : r.length ≤ n := Nat.le_of_succ_le_succ h1
    have a2 : r.length ≤ m := Nat.le_of_succ_le_succ h2
    have d1 := drop_le cL r
    have d2 := drop_le cW r
    show (if cB c then tokF n r else if c = 64 then (c :: r.takeWhile cL) :: tokF n (r.dropWhile cL) else if cW c then (c :: r.takeWhile cW) :: tokF n (r.dropWhile cW) else [c] :: tokF n r) =
      (if cB c then tokF m r else if c = 64 then (c :: r.takeWhile cL) :: tokF m (r.dropWhile cL) else if cW c then (c :: r.takeWhile cW) :: tokF m (r.dropWhile cW) else [c] :: tokF m r)
    rw [tokF_more n m r a1 a2, tokF_more n m _ (Nat.le_trans d1 a1) (Nat.le_trans d1 a2), tokF_more n m _ (Nat.le_trans d2 a1) (Nat.le_trans d2 a2)]
def tok (zs : List Nat) : List (List Nat) := tokF zs.length zs
theorem tok_nil : tok [] = [] := rfl
theorem tok_cons (c : Nat) (r : List Nat) : tok (c :: r) = if cB c then tok r else if c = 64 then (c :: r.takeWhile cL) :: tok (r.dropWhile cL)
    else if cW c then (c :: r.takeWhile cW) :: tok (r.dropWhile cW) else [c] :: tok r := by
  show (if cB c then tokF r.length r else if c = 64 then (c :: r.takeWhile cL) :: tokF r.length (r.dropWhile cL) else if cW c then (c :: r.takeWhile cW) :: tokF r.length (r.dropWhile cW) else [c] :: tokF r.length r) = _
  rw [tokF_more r.length (r.dropWhile cL).length (r.dropWhile cL) (drop_le _ _) (Nat.le_refl _), tokF_more r.length (r.dropWhile cW).length (r.dropWhile cW) (drop_le _ _) (Nat.le_refl _)]
  rfl
/-! #### what the law's own walk has found, and how it goes on -/
def cont : Nat → List (List Nat) → List Nat → List (List Nat)
  | 1, f, r => f.dropLast ++ ((f.getLast?.getD []) ++ r.takeWhile cW) :: tok (r.dropWhile cW)
  | 2, f, r => f.dropLast ++ ((f.getLast?.getD []) ++ r.takeWhile cL) :: tok (r.dropWhile cL)
  | _, f, r => f ++ tok r
theorem cont0 (f : List (List Nat)) (r : List Nat) : cont 0 f r = f ++ tok r := rfl
theorem cont1 (g : List (List Nat)) (t r : List Nat) : cont 1 (g ++ [t]) r = g ++ (t ++ r.takeWhile cW) :: tok (r.dropWhile cW) := by
  show (g ++ [t]).dropLast ++ (((g ++ [t]).getLast?.getD []) ++ r.takeWhile cW) :: tok (r.dropWhile cW) = _
  rw [List.dropLast_concat, List.getLast?_concat]; rfl
theorem cont2 (g : List (List Nat)) (t r : List Nat) : cont 2 (g ++ [t]) r = g ++ (t ++ r.takeWhile cL) :: tok (r.dropWhile cL) := by
  show (g ++ [t]).dropLast ++ (((g ++ [t]).getLast?.getD []) ++ r.takeWhile cL) :: tok (r.dropWhile cL) = _
  rw [List.dropLast_concat, List.getLast?_concat]; rfl
/-- a sign that goes on -/
theorem cont1_on {c : Nat} (h : cW c = true) (g : List (List Nat)) (t r : List Nat) : cont 1 (g ++ [t]) (c :: r) = cont 1 (g ++ [t ++ [c]]) r := by
  rw [cont1, cont1, List.takeWhile_cons_of_pos h, List.dropWhile_cons_of_pos h, List.append_assoc]; rfl
theorem cont2_on {c : Nat} (h : cL c = true) (g : List (List Nat)) (t r : List Nat) : cont 2 (g ++ [t]) (c :: r) = cont 2 (g ++ [t ++ [c]]) r := by
  rw [cont2, cont2, List.takeWhile_cons_of_pos h, List.dropWhile_cons_of_pos h, List.append_assoc]; rfl
/-- a sign that doesn't -/
theorem cont1_off {c : Nat} (h : cW c = false) (g : List (List Nat)) (t r : List Nat) : cont 1 (g ++ [t]) (c :: r) = cont 0 (g ++ [t]) (c :: r) := by
  rw [cont1, cont0, List.takeWhile_cons_of_neg (by rw [h]; decide), List.dropWhile_cons_of_neg (by rw [h]; decide), List.append_nil, List.append_assoc]; rfl
theorem cont2_off {c : Nat} (h : cL c = false) (g : List (List Nat)) (t r : List Nat) : cont 2 (g ++ [t]) (c :: r) = cont 0 (g ++ [t]) (c :: r) := by
  rw [cont2, cont0, List.takeWhile_cons_of_neg (by rw [h]; decide), List.dropWhile_cons_of_neg (by rw [h]; decide), List.append_nil, List.append_assoc]; rfl
theorem cont_blank {c : Nat} (h : cB c = true) (f : List (List Nat)) (r : List Nat) : cont 0 f (c :: r) = cont 0 f r := by
  rw [cont0, cont0, tok_cons, if_pos h]
theorem cont_at (f : List (List Nat)) (r : List Nat) : cont 0 f (64 :: r) = cont 2 (f ++ [[64]]) r := by
  rw [cont0, cont2, tok_cons, if_neg (by rw [cB_at]; decide), if_pos rfl]; rfl
theorem cont_word {c : Nat} (h : cW c = true) (f : List (List Nat)) (r : List Nat) : cont 0 f (c :: r) = cont 1 (f ++ [[c]]) r := by
  rw [cont0, cont1, tok_cons, if_neg (by rw [cW_B h]; decide), if_neg (cW_ne h), if_pos h]; rfl
theorem cont_odd {c : Nat} (hb : cB c = false) (h : cW c = false) (ha : c ≠ 64) (f : List (List Nat)) (r : List Nat) : cont 0 f (c :: r) = cont 0 (f ++ [[c]]) r := by
  rw [cont0, cont0, tok_cons, if_neg (by rw [hb]; decide), if_neg ha, if_neg (by rw [h]; decide), List.append_assoc]; rfl
theorem cont_end1 (g : List (List Nat)) (t : List Nat) : cont 1 (g ++ [t]) [] = g ++ [t] := by
  rw [cont1]; show g ++ [t ++ []] = _; rw [List.append_nil]
theorem cont_end2 (g : List (List Nat)) (t : List Nat) : cont 2 (g ++ [t]) [] = g ++ [t] := by
  rw [cont2]; show g ++ [t ++ []] = _; rw [List.append_nil]
theorem cont_end0 (f : List (List Nat)) : cont 0 f [] = f := by
  rw [cont0, tok_nil, List.append_nil]
/-! #### tokens put together -/
/-- blanks and line feeds alone -/
def Bl (g : List Nat) : Prop := ∀ c ∈ g, cB c = true
/-- a token -/
def Tk (t : List Nat) : Prop := (∃ c, t = [c] ∧ cB c = false ∧ cW c = false ∧ c ≠ 64) ∨ (∃ r, t = 64 :: r ∧ ∀ c ∈ r, cL c = true) ∨ (t ≠ [] ∧ ∀ c ∈ t, cW c = true)
/-- the one runs on into the other -/
def runs (t u : List Nat) : Bool := if t.headD 0 = 64 then cL (u.headD 0) else cW (t.headD 0) && cW (u.headD 0)
theorem tok_gap : ∀ (g r : List Nat), Bl g → tok (g ++ r) = tok r
  | [], _, _ => rfl
  | c :: g, r, h => by
    rw [List.cons_append, tok_cons, if_pos (h c List.mem_cons_self)]
    exact tok_gap g r fun z hz => h z (List.mem_cons_of_mem _ hz)
theorem take_all {p : Nat → Bool} : ∀ (t r : List Nat), (∀ c ∈ t, p c = true) → (∀ c r', r = c :: r' → p c = false) → (t ++ r).takeWhile p = t ∧ (t ++ r).dropWhile p = r
  | [], [], _, _ => ⟨rfl, rfl⟩
  | [], c :: r, _, h => by
    have e := h c r rfl
    rw [List.nil_append, List.takeWhile_cons_of_neg (by rw [e]; decide), List.dropWhile_cons_of_neg (by rw [e]; decide)]
    exact ⟨rfl, rfl⟩
  | c :: t, r, ht, h => by
    have ⟨a, b⟩ := take_all t r (fun z hz => ht z (List.mem_cons_of_mem _ hz)) h
    rw [List.cons_append, List.takeWhile_cons_of_pos (ht c List.mem_cons_self), List.dropWhile_cons_of_pos (ht c List.mem_cons_self), a, b]
    exact ⟨rfl, rfl⟩
theorem tok_tok {t r : List Nat} (h : Tk t) (hr : r = [] ∨ runs t r = false) : tok (t ++ r) = t :: tok r := by
  rcases h with ⟨c, rfl, hb, hw, ha⟩ | ⟨u, rfl, hu⟩ | ⟨hn, hw⟩
  · show tok (c :: r) = _
    rw [tok_cons, if_neg (by rw [hb]; decide), if_neg ha, if_neg (by rw [hw]; decide)]
  · have hs : ∀ c r', r = c :: r' → cL c = false := by
      intro c r' e
      rcases hr with z | z
      · rw [z] at e; cases e
      · subst e; exact z
    have ⟨a, b⟩ := take_all u r hu hs
    rw [List.cons_append, tok_cons, if_neg (by rw [cB_at]; decide), if_pos rfl, a, b]
  · cases t with
    | nil => exact absurd rfl hn
    | cons c u =>
      have hc := hw c List.mem_cons_self
      have hs : ∀ x r', r = x :: r' → cW x = false := by
        intro x r' e
        rcases hr with z | z
        · rw [z] at e; cases e
        · subst e
          unfold runs at z
          rw [show (c :: u).headD 0 = c from rfl, if_neg (cW_ne hc), hc] at z
          exact z
      have ⟨a, b⟩ := take_all u r (fun z hz => hw z (List.mem_cons_of_mem _ hz)) hs
      rw [List.cons_append, tok_cons, if_neg (by rw [cW_B hc]; decide), if_neg (cW_ne hc), if_pos hc, a, b]
/-- tokens and the gaps behind them, put into one row -/
def mixed : List (List Nat) → List (List Nat) → List Nat
  | t :: ts, g :: gs => t ++ (g ++ mixed ts gs)
  | _, _ => []
/-- what is asked of a gap behind token k -/
def need (ts : List (List Nat)) (k : Nat) : Bool := match ts[k]?, ts[k + 1]? with
  | some t, some u => runs t u
  | _, _ => false
theorem runs_bl {t g r : List Nat} (hn : g ≠ []) (hg : Bl g) : runs t (g ++ r) = false := by
  cases g with
  | nil => exact absurd rfl hn
  | cons c g =>
    have hb := hg c List.mem_cons_self
    have hw : cW c = false := by
      cases e : cW c with
      | false => rfl
      | true => rw [cW_B e] at hb; cases hb
    have hl : cL c = false := by
      cases e : cL c with
      | false => rfl
      | true => rw [cL_W e] at hw; cases hw
    unfold runs
    rw [List.cons_append]
    show (if t.headD 0 = 64 then cL c else cW (t.headD 0) && cW c) = false
    rw [hl, hw, Bool.and_false]
    split <;> rfl
theorem runs_head {t u r : List Nat} (hu : u ≠ []) : runs t (u ++ r) = runs t u := by
  cases u with
  | nil => exact absurd rfl hu
  | cons c u => rfl
theorem Tk.ne {t : List Nat} (h : Tk t) : t ≠ [] := by
  rcases h with ⟨c, rfl, _⟩ | ⟨r, rfl, _⟩ | ⟨h, _⟩
  · exact fun e => by cases e
  · exact fun e => by cases e
  · exact h
theorem tok_mixed : ∀ (ts gs : List (List Nat)), (∀ t ∈ ts, Tk t) → gs.length = ts.length → (∀ k g, gs[k]? = some g → Bl g ∧ (need ts k = true → g ≠ [])) → tok (mixed ts gs) = ts
  | [], [], _, _, _ => rfl
  | [], _ :: _, _, h, _ => by cases h
  | _ :: _, [], _, h, _ => by cases h
  | t :: ts, g :: gs, ht, hl, hg => by
    have ih := tok_mixed ts gs (fun u hu => ht u (List.mem_cons_of_mem _ hu)) (Nat.succ.inj hl) (fun k g' e => by
      have := hg (k + 1) g' e
      exact this)
    obtain ⟨hb, hne⟩ := hg 0 g rfl
    show tok (t ++ (g ++ mixed ts gs)) = t :: ts
    rw [tok_tok (ht t List.mem_cons_self), tok_gap g _ hb, ih]
    by_cases e : g = []
    · subst e
      rw [List.nil_append]
      cases ts with
      | nil => exact .inl (by cases gs <;> rfl)
      | cons u us =>
        cases gs with
        | nil => cases hl
        | cons g2 gs2 =>
          refine .inr ?_
          show runs t (u ++ (g2 ++ mixed us gs2)) = false
          rw [runs_head (ht u (List.mem_cons_of_mem _ List.mem_cons_self)).ne]
          cases q : runs t u with
          | false => rfl
          | true => exact absurd rfl (hne q)
    · exact .inr (runs_bl e hb)
/-! #### small things -/
theorem take_succ' {α : Type} {l : List α} {i : Nat} {x : α} (h : l[i]? = some x) : l.take (i + 1) = l.take i ++ [x] := by
  rw [List.take_add_one, h]; rfl
theorem big_ok {n : Nat} (h : n ≤ 100000) : n ≤ sizeLine := Nat.le_trans h (by decide)
theorem get_sV {ts : List (List Nat)} {i : Nat} {t : List Nat} (h : ts[i]? = some t) : (ts.map sV)[i]? = some (sV t) := by
  rw [List.getElem?_map, h]; rfl
theorem drop_at {zs : List Nat} {i c : Nat} (h : zs[i]? = some c) : zs.drop i = c :: zs.drop (i + 1) := by
  have ⟨h1, h2⟩ := List.getElem?_eq_some_iff.mp h
  rw [List.drop_eq_getElem_cons h1, h2]
theorem same_mut {H H' : Hp} {p : Addr} {o : HO} (a : Same H H') (hp : H p = none) : Same H (upd H' p o) := fun x u h => by
  rw [upd_ne (ne_of_none h hp)]; exact a x u h
theorem same_upd {H H' : Hp} {p : Addr} {o : HO} (a : Same H H') (hp : H' p = none) : Same H (upd H' p o) := fun x u h => by
  have h2 := a x u h
  rw [upd_ne (ne_of_none h2 hp)]; exact h2
theorem dec_sign (c : Nat) (z : Str) (e : Nat) (hz : z = mkS [e]) : decide (V.str ⟨#[c]⟩ = V.str z) = decide (c = e) := by
  rw [hz]
  by_cases h : c = e
  · subst h; rw [decide_eq_true rfl]; exact decide_eq_true rfl
  · rw [decide_eq_false h]
    refine decide_eq_false fun q => h ?_
    have e2 : mkS [c] = mkS [e] := V.str.inj q
    have e3 := mkS_inj e2
    injection e3
theorem tf (b : Bool) : b = true ∨ b = false := by cases b <;> simp
theorem bl_of {p : Prop} [Decidable p] {b : Bool} (h : decide p = b) : V.bl (decide p) = V.bl b := congrArg V.bl h
theorem at_mk : (("@" : Str)) = mkS [64] := by decide +kernel
/-! ### texts put together -/
theorem empty_mk : (("" : Str)) = mkS [] := by decide +kernel
theorem map_sV (zss : List (List Nat)) : zss.map sV = (zss.map mkS).map V.str := by
  rw [List.map_map]; rfl
theorem sum_len : ∀ zss : List (List Nat), ((zss.map mkS).map (·.length)).sum = zss.flatten.length
  | [] => rfl
  | z :: r => by
    rw [List.map_cons, List.map_cons, List.sum_cons, sum_len r, List.flatten_cons, List.length_append, mkS_len]
theorem joinL_nil : ∀ zss : List (List Nat), joinL [] zss = zss.flatten
  | [] => rfl
  | [z] => by show z = z ++ []; rw [List.append_nil]
  | z :: y :: r => by
    show z ++ ([] ++ joinL [] (y :: r)) = z ++ (y :: r).flatten
    rw [List.nil_append, joinL_nil (y :: r)]
theorem join_mk (zss : List (List Nat)) : Txt.join ("" : Str) (zss.map mkS) = mkS zss.flatten := by
  have h : tl (Txt.join ("" : Str) (zss.map mkS)) = zss.flatten := by
    rw [join_eq, tl_join, show (zss.map mkS).map tl = zss from (by rw [List.map_map]; exact List.map_id'' (fun _ => rfl) zss), empty_mk]
    exact joinL_nil zss
  rw [← h]; rfl
theorem flat_len {B : Nat} : ∀ {zss : List (List Nat)}, (∀ z ∈ zss, z.length ≤ B) → zss.flatten.length ≤ zss.length * B
  | [], _ => Nat.zero_le _
  | z :: r, h => by
    have ih := flat_len (zss := r) fun y hy => h y (List.mem_cons_of_mem _ hy)
    have hz := h z List.mem_cons_self
    rw [List.flatten_cons, List.length_append, List.length_cons, Nat.succ_mul]
    omega
theorem flat_one : ∀ {zss : List (List Nat)}, (∀ z ∈ zss, z.length = 1) → zss.flatten.length = zss.length
  | [], _ => rfl
  | z :: r, h => by
    rw [List.flatten_cons, List.length_append, List.length_cons, flat_one fun y hy => h y (List.mem_cons_of_mem _ hy), h z List.mem_cons_self]
    omega
theorem blank_mk : ((" " : Str)) = mkS [32] := by decide +kernel
theorem feed_mk : (("\n" : Str)) = mkS [10] := by decide +kernel
end Vf

set_option Elab.async false
set_option linter.all false
set_option maxRecDepth 100000
set_option maxHeartbeats 4000000
namespace Vf
open PySem PySem.Spec PyProof.Rows L2 TL
/-- what the list of a comprehension holds: texts -/
def PvS (R : List Nat → Prop) (d l : Addr) (H : Hp) (D : Addr) (i : Nat) (H' : Hp) : Prop :=
  ∃ zss : List (List Nat), zss.length = i ∧ (∀ zs ∈ zss, R zs) ∧ Kp d H H' ∧ DI d l H' ∧ H' D = some (.lst (zss.map sV))
theorem PvS.start {R : List Nat → Prop} {d l D : Addr} {H : Hp} (hD : DI d l H) (nD : H D = none) : PvS R d l H D 0 (upd H D (.lst [])) :=
  ⟨[], rfl, (fun _ h => nomatch h), (Kp.refl d H).new nD, hD.new nD, upd_same⟩
theorem PvS.dice {R : List Nat → Prop} {d l D : Addr} {H H1 : Hp} {i : Nat} (p : PvS R d l H D i H1) : DI d l H1 := by
  obtain ⟨_, _, _, _, h, _⟩ := p
  exact h
theorem PvS.step {R : List Nat → Prop} {d l D : Addr} {H H1 H2 : Hp} {i : Nat} {zs : List Nat} (hD : DI d l H) (nD : H D = none) (p : PvS R d l H D i H1) (hi : i < 100000) (K2 : Kp d H1 H2) (D2 : DI d l H2) (r : R zs) :
    ∃ acc, H2 D = some (.lst acc) ∧ acc.length < sizeLine ∧ PvS R d l H D (i + 1) (upd H2 D (.lst (acc ++ [sV zs]))) := by
  obtain ⟨zss, hl, hR, K1, D1, e1⟩ := p
  have n1 := hD.nd nD
  have e2 : H2 D = some (.lst (zss.map sV)) := K2 _ _ n1.1 e1
  refine ⟨_, e2, ?_, zss ++ [zs], ?_, ?_, (K1.trans K2).mut nD, D2.at n1.1 n1.2, ?_⟩
  · rw [List.length_map, hl]
    exact Nat.lt_of_lt_of_le hi (by decide)
  · rw [List.length_append, hl]; rfl
  · intro z hz
    rcases List.mem_append.mp hz with h | h
    · exact hR z h
    · rw [List.mem_singleton.mp h]; exact r
  · rw [upd_same, List.map_append]; rfl
section
variable {P : Program} {w : World} {K : PySem.W.Frag} {mg : Str → Option Value} {base : Heap}
/-! ### pick, rare -/
/-- what is picked from -/
def Row (K : PySem.W.Frag) (H : Hp) (d : Addr) (row : V) (xs : List V) : Prop :=
  (∃ a, row = .ref a ∧ a ≠ d ∧ SqL K H a xs) ∨ ∃ zs, row = sV zs ∧ xs = zs.map fun c => sV [c]
def spPick (K : PySem.W.Frag) : Sp := fun vs H Q _ => ∃ (d l : Addr) (row : V) (xs : List V), vs = [.ref d, row] ∧ DI d l H ∧ Row K H d row xs ∧ 0 < xs.length ∧ xs.length ≤ 1000 ∧
  ∀ H' v, Kp d H H' → DI d l H' → v ∈ xs → Q v H'
theorem at_draw {xs : List V} {r : Int} (h : 0 < xs.length) (h1 : (xs.length : Int) < 2 → r = 0) (h2 : 2 ≤ (xs.length : Int) → 0 ≤ r ∧ r < (xs.length : Int)) :
    ∃ (j : Nat) (hj : j < xs.length), r = (j : Int) := by
  by_cases h3 : 2 ≤ (xs.length : Int)
  · have ⟨a, b⟩ := h2 h3
    exact ⟨r.toNat, by omega, by omega⟩
  · exact ⟨0, h, by rw [h1 (by omega)]; rfl⟩
def spRare : Sp := fun vs H Q _ => ∃ (d l : Addr) (m : Int), vs = [.ref d, .int m] ∧ DI d l H ∧ m ≤ 1000000 ∧ ∀ H' b, Kp d H H' → DI d l H' → Q (.bl b) H'
/-! ### run, word -/
def spRun : Sp := fun vs H Q _ => ∃ (d l : Addr) (cs : List Nat) (n : Int), vs = [.ref d, sV cs, .int n] ∧ DI d l H ∧ 0 < cs.length ∧ cs.length ≤ 1000 ∧ 0 ≤ n ∧ n ≤ 1000 ∧
  ∀ H' zs, Kp d H H' → DI d l H' → (zs.length : Int) = n → (∀ c ∈ zs, c ∈ cs) → Q (sV zs) H'
/-- texts of one sign each -/
def One (cs zs : List Nat) : Prop := ∃ c, zs = [c] ∧ c ∈ cs
theorem one_flat {cs : List Nat} : ∀ {zss : List (List Nat)}, (∀ z ∈ zss, One cs z) → zss.flatten.length = zss.length ∧ ∀ c ∈ zss.flatten, c ∈ cs
  | [], _ => ⟨rfl, fun _ h => nomatch h⟩
  | z :: r, h => by
    obtain ⟨c, rfl, hc⟩ := h z List.mem_cons_self
    have ⟨a, b⟩ := one_flat (zss := r) fun y hy => h y (List.mem_cons_of_mem _ hy)
    rw [List.flatten_cons]
    refine ⟨by rw [List.length_append, a]; show 1 + r.length = r.length + 1; omega, fun x hx => ?_⟩
    rcases List.mem_append.mp hx with e | e
    · rw [List.mem_singleton.mp e]; exact hc
    · exact b x e
theorem pick_one {d l : Addr} {cs : List Nat} {H : Hp} {Q : VK} (hD : DI d l H) (h0 : 0 < cs.length) (hx : cs.length ≤ 1000) (q : ∀ H' zs, Kp d H H' → DI d l H' → One cs zs → Q (sV zs) H') : spPick K [.ref d, sV cs] H Q E0 := by
  refine ⟨d, l, _, _, rfl, hD, .inr ⟨cs, rfl, rfl⟩, by rw [List.length_map]; exact h0, by rw [List.length_map]; exact hx, fun H' v k D' hv => ?_⟩
  obtain ⟨c, hc, rfl⟩ := List.mem_map.mp hv
  exact q H' _ k D' ⟨c, rfl, hc⟩
def spWord : Sp := fun vs H Q _ => ∃ (d l : Addr) (lo hi : Int), vs = [.ref d, .int lo, .int hi] ∧ DI d l H ∧ 0 ≤ lo ∧ lo ≤ hi ∧ hi ≤ 900 ∧
  ∀ H' zs, Kp d H H' → DI d l H' → lo ≤ (zs.length : Int) → (zs.length : Int) ≤ hi → (∀ c ∈ zs, cW c = true) → Q (sV zs) H'
end
end Vf

set_option Elab.async false
set_option linter.all false
set_option maxRecDepth 100000
set_option maxHeartbeats 4000000
namespace Vf
open PySem PySem.Spec PyProof.Rows L2 TL LamX
/-! ### a lambda with one parameter -/
/-- one local, the parameter p, at the maker's slot ip; all else captured or global -/
structure LamP (sc scope : Scope) (N : List Str) (p : Str) (ip : Nat) : Prop where
  kind : scope.kind = .function
  co : scope.isCoroutine = false
  gen : scope.isGenerator = false
  nocell : ∀ y ∈ scope.names, y.2 ≠ .cell
  loc : ∀ y ∈ scope.names, y.2 = .local → y.1 = p
  par : scope.names.lookup p = some .local
  free : ∀ y ∈ scope.names, y.2 = .free → sc.names.lookup y.1 = some .cell ∨ sc.names.lookup y.1 = some .free
  nd : N.Nodup
  at_ : N[ip]? = some p
theorem LamP.has {X : Cx} {scope : Scope} {N : List Str} {p : Str} {ip : Nat} (L : LamP X.env.scope scope N p ip) (ok : X.Ok) : ∀ y ∈ scope.names, y.2 = .free → ∃ c, X.env.cells.lookup y.1 = some c := fun y hy e =>
  (L.free y hy e).elim (fun k => ok.has _ (.inl k)) (fun k => ok.has _ (.inr k))
def lamPB (sc scope : Scope) (N : List Str) (p : Str) (ip : Nat) : Bool :=
  decide (scope.kind = .function) && (!scope.isCoroutine && (!scope.isGenerator && (decide (scope.names.lookup p = some .local) && (decide (N[ip]? = some p) && (decide N.Nodup &&
    scope.names.all fun y => !decide (y.2 = .cell) && ((!decide (y.2 = .local) || decide (y.1 = p)) && (!decide (y.2 = .free) || (decide (sc.names.lookup y.1 = some .cell) || decide (sc.names.lookup y.1 = some .free)))))))))
theorem lamP_by {sc scope : Scope} {N : List Str} {p : Str} {ip : Nat} (h : lamPB sc scope N p ip = true) : LamP sc scope N p ip := by
  unfold lamPB at h
  simp only [Bool.and_eq_true, Bool.or_eq_true, Bool.not_eq_true', decide_eq_true_eq, decide_eq_false_iff_not, List.all_eq_true] at h
  obtain ⟨h1, h2, h3, h4, h5, h6, h7⟩ := h
  exact { kind := h1, co := h2, gen := h3, nocell := fun y hy => (h7 y hy).1, loc := fun y hy e => (h7 y hy).2.1.resolve_left (fun z => z e), par := h4,
          free := fun y hy e => (h7 y hy).2.2.resolve_left (fun z => z e), nd := h6, at_ := h5 }
section
variable {X : Cx} {pins : List (Addr × Obj)} {σ : L2.St} {H HZ : Hp} {s s1 : Shared}
/-- the body's start: the parameter's slot holds the argument -/
theorem lam_startP {A : Around} {outer : List Env} {E : XK} {scope : Scope} {f c' : Addr} {h₁ : Heap} {tk : Nat} {p : Str} {ip : Nat} {v : V} {u : Value} (I : Inv X pins σ H s) (L : LamP X.env.scope scope X.N p ip) (ru : RelV v u) (e0 : Env0 X.prog X.w X.K X.mg X.base A outer s1 HZ) (hd : A.handled = none)
    {fs : List Addr} (un : Un fs [] H HZ s.heap s1.heap) (hns : h₁.Ns s1.heap.objs.size fun y => ([(p, u)] : List (Str × Value)).reverse.lookup y) (kp : ∀ b o, s1.heap.get? b = some o → h₁.get? b = some o) :
    Inv (lamCx X A outer s1 HZ E scope f c') [] (σ.set ip (some v)) HZ { s1 with heap := h₁, toks := tk } := by
  have hfree := L.has I.ok
  have up : ∀ {y c}, (cloFrom X.env.cells scope.names []).lookup y = some c → X.env.cells.lookup y = some c := fun {y c} e => by
    rcases cloFrom_mem (PySem.mem_of_lookup e) with hm | ⟨h1, h2⟩
    · cases hm
    · obtain ⟨c1, hc⟩ := hfree _ h1 rfl
      have hc : X.env.cells.lookup y = some c1 := hc
      have e2 : c = c1 := by rw [h2, hc]; rfl
      rw [e2]; exact hc
  have look : ∀ {y}, scope.names.lookup y = some .free → ∃ c, (cloFrom X.env.cells scope.names []).lookup y = some c := fun {y} hl =>
    mem_lookup (cloFrom_has (cells := X.env.cells) (acc := []) (show (y, NameKind.free) ∈ scope.names from PySem.mem_of_lookup hl))
  have cellK : ∀ {c : Addr} {v : Option Value}, H c = none → s.heap.IsCell c v → h₁.IsCell c v := fun {c v} n ⟨o, ho, hd⟩ => by
    obtain ⟨sl, q⟩ := un.any ho n (by simp)
    exact ⟨_, kp _ _ q, hd⟩
  have noA : ∀ b : Addr, b ∉ (lamCx X A outer s1 HZ E scope f c').ex := fun b z => absurd (show b ∈ ([] : List Addr) from z) (by simp)
  refine ⟨⟨e0.mod, L.kind, rfl, rfl, Nat.le_refl _, fun y z c e1 e2 => I.ok.inj y z c (up e1) (up e2), fun y hy => ?_, fun y c z _ => ?_, fun _ => hd, Around.frames_deeper e0.frames, .inr ⟨rfl, rfl⟩, fun b z => absurd z (noA b), e0.bs, e0.bsz, fun b _ _ => noA b,
      fun b z => absurd z (noA b), e0.funs, e0.frf⟩,
    rfl, e0.bare, Un.kept kp, ⟨_, hns, fun i y x e1 e2 e3 => ?_⟩, fun y c e => ?_, e0.hok.fresh (Nat.le_refl _), fun y c e => ?_, fun q hq => absurd (show q ∈ ([] : List (Addr × Obj)) ++ [] from hq) (by simp), e0.hok.kept kp, by rw [List.length_set]; exact I.len⟩
  · have hy : scope.names.lookup y = some .cell ∨ scope.names.lookup y = some .free := hy
    rcases hy with hy | hy
    · exact absurd rfl (L.nocell _ (PySem.mem_of_lookup hy))
    · exact look hy
  · cases (show false = true from z)
  · have e1 : X.N[i]? = some y := e1
    have e3 : Vis scope y := e3
    by_cases hi : i = ip
    · subst hi
      have ey : y = p := Option.some.inj (e1.symm.trans L.at_)
      subst ey
      rw [List.getElem?_set, if_pos rfl] at e2
      have ex : x = v := by
        split at e2
        · exact (Option.some.inj (Option.some.inj e2)).symm
        · cases e2
      subst ex
      exact ⟨u, ru, .inl ⟨L.par, by simp⟩⟩
    · have ny : y ≠ p := fun z => by
        subst z
        have l1 := (List.getElem?_eq_some_iff.mp e1)
        have l2 := (List.getElem?_eq_some_iff.mp L.at_)
        obtain ⟨a1, b1⟩ := l1
        obtain ⟨a2, b2⟩ := l2
        rcases Nat.lt_or_gt_of_ne hi with c | c
        · exact List.pairwise_iff_getElem.mp L.nd i ip a1 a2 c (b1.trans b2.symm)
        · exact List.pairwise_iff_getElem.mp L.nd ip i a2 a1 c (b2.trans b1.symm)
      rw [List.getElem?_set, if_neg (fun z => hi z.symm)] at e2
      rcases e3 with k | k | k
      · exact absurd (L.loc _ (PySem.mem_of_lookup k) rfl) ny
      · exact absurd rfl (L.nocell _ (PySem.mem_of_lookup k))
      · obtain ⟨m, hn, hl⟩ := I.loc
        have hvis : Vis X.env.scope y := (L.free _ (PySem.mem_of_lookup k) rfl).elim (fun k => .inr (.inl k)) (fun k => .inr (.inr k))
        obtain ⟨w', r, q⟩ := hl i y x e1 e2 hvis
        obtain ⟨c2, h2⟩ := look k
        refine ⟨w', r, .inr ⟨.inr k, c2, h2, ?_⟩⟩
        have c1 := up h2
        rcases q with ⟨k', _⟩ | ⟨_, c3, e', z⟩
        · have k' : X.env.scope.names.lookup y = some .local := k'
          rcases L.free _ (PySem.mem_of_lookup k) rfl with k2 | k2 <;> rw [show X.env.scope.names.lookup y = _ from k2] at k' <;> cases k'
        · rw [c1] at e'
          cases e'
          exact cellK (I.freeC y _ c1) z
  · obtain ⟨w', z⟩ := I.cell y c (up e)
    exact ⟨w', cellK (I.freeC y c (up e)) z⟩
  · obtain ⟨v, o, ho, hd⟩ := I.cell y c (up e)
    exact un.free c o ho (I.freeC y c (up e)) (by simp)
/-- the lambda at f, as it stands for the frames fs at s1, H1: called, it reads its body -/
structure Lives (P : Program) (w : World) (K : PySem.W.Frag) (mg : Str → Option Value) (base : Heap) (k : Nat) (f c' : Addr) (q : Str) (tl : V → Hp → VK → Prop) (fs : List Addr) (s1 : Shared) (H1 : Hp) : Prop where
  obj : ∃ (nm q' : Str) (pa : Arguments) (body : Expr) (sc : Scope) (cl : List (Str × Addr)) (pm ctv : Value), s1.heap.get? f = some (PySem.W.kla_obj nm q' pa body sc cl pm c' ctv)
  fn : H1 f = none
  fr : f ∉ fs
  act : ∀ (A' : Around) (outer' : List Env) (s' : Shared) (H' : Hp) (u : Value) (y : V) (Q : VK), Room (k + 1) A' → Env0 P w K mg base A' outer' s' H' → (∀ b ∈ fs, b ∈ frs outer') → f ∉ frs outer' → Un (frs outer') [] H1 H' s1.heap s'.heap → RelV y u → H' c' = some (CodeO c' q) → tl y H' Q →
    codeAny (model P w) A' (.call (.ref f) ⟨[u], []⟩) (CR (L2.CX P w) outer' P w H' s' Q C8.E0) s'
theorem Lives.step {P : Program} {w : World} {K : PySem.W.Frag} {mg : Str → Option Value} {base : Heap} {k : Nat} {f c' : Addr} {q : Str} {tl : V → Hp → VK → Prop} {fs fs2 : List Addr} {s1 s2 : Shared} {H1 H2 : Hp} (L : Lives P w K mg base k f c' q tl fs s1 H1) (sub : ∀ b ∈ fs, b ∈ fs2) (nf : f ∉ fs2) (un : Un fs2 [] H1 H2 s1.heap s2.heap) :
    Lives P w K mg base k f c' q tl fs2 s2 H2 := by
  obtain ⟨nm, q', pa, body, sc, cl, pm, ctv, ho⟩ := L.obj
  refine ⟨⟨nm, q', pa, body, sc, cl, pm, ctv, un.keep f _ ho L.fn nf (by simp)⟩, un.free f _ ho L.fn (by simp), nf, fun A' outer' s' H' u y Q hr e0 hs hn un2 rv hc ht => ?_⟩
  exact L.act A' outer' s' H' u y Q hr e0 (fun b hb => hs b (sub b hb)) hn ((un.mono hs (fun _ h => h)).trans un2) rv hc ht
theorem Lives.imp {P : Program} {w : World} {K : PySem.W.Frag} {mg : Str → Option Value} {base : Heap} {k : Nat} {f c' : Addr} {q : Str} {tl tl' : V → Hp → VK → Prop} {fs : List Addr} {s1 : Shared} {H1 : Hp} (L : Lives P w K mg base k f c' q tl fs s1 H1) (h : ∀ y H Q, tl' y H Q → tl y H Q) :
    Lives P w K mg base k f c' q tl' fs s1 H1 := ⟨L.obj, L.fn, L.fr, fun A' outer' s' H' u y Q hr e0 hs hn un rv hc ht => L.act A' outer' s' H' u y Q hr e0 hs hn un rv hc (h _ _ _ ht)⟩
/-- just made, in X -/
theorem lam_lives {scope : Scope} {f c' : Addr} {pm ctv : Value} {params : Arguments} {body : Expr} {k ip : Nat} {p : Str} {tb : TE} (I : Inv X pins σ H s) (L : LamP X.env.scope scope X.N p ip) (hf : s.heap.get? f = some (PySem.W.kla_obj "<lambda>" (X.env.qual ++ "<lambda>") params body scope (cloFrom X.env.cells scope.names []) pm c' ctv)) (hfn : H f = none) (hfr : f ∉ frs X.stack)
    (hbind : ∀ u : Value, bindArgs (PySem.W.kla_fn "<lambda>" (X.env.qual ++ "<lambda>") params body scope (cloFrom X.env.cells scope.names []) pm (.ref c') ctv) ⟨[u], []⟩ = pure [(p, u)])
    (hbody : ∀ (A : Around) (outer : List Env) (s : Shared) (H : Hp), Room k (A.deeper (lamEnv X scope s.heap.objs.size f c')) → PE (lamCx X A outer s H C8.E0 scope f c') body tb) :
    Lives X.prog X.w X.K X.mg X.base k f c' (X.env.qual ++ "<lambda>") (fun y H' Q' => tb (σ.set ip (some y)) H' Q') (frs X.stack) s H := by
  refine ⟨⟨_, _, _, _, _, _, _, _, hf⟩, hfn, hfr, fun A' outer' s2 H2 u x Q hr e0 _ hn un ru hc q => ?_⟩
  have of2 := un.keep f _ hf hfn hn (by simp)
  obtain ⟨⟨oc, ws, t, hoc, hdc, hvc⟩, _, _⟩ := e0.hok c' _ hc
  refine PySem.W.kla_callFunE hr.depth of2 rfl L.co L.gen rfl ⟨c', oc, ws, t, rfl, hoc, hdc, hvc⟩ ?_
  rw [hbind]
  have lim : s2.heap.NoLimit := e0.mod.nolimit.keeps fun b o e => (e0.bs b o e).1
  refine wpAny_pure (wpAny_newFunctionEnv (fun y hy => L.nocell y hy) (fun y hy => by rw [List.mem_singleton.mp hy]; exact L.par) (fun h₁ hns hsb => ⟨lim.fresh _ hsb, ?_⟩) L.kind)
  show codeAny _ _ (.expr body (lamEnv X scope s2.heap.objs.size f c')) _ _
  have kp : ∀ b o, s2.heap.get? b = some o → h₁.get? b = some o := fun b o e => hsb.extBut b o (Nat.ne_of_lt (Heap.lt_size e)) (Heap.get?_push_of_some _ e)
  have J : Inv (lamCx X A' outer' s2 H2 C8.E0 scope f c') [] (σ.set ip (some x)) H2 { s2 with heap := h₁, toks := s2.toks + ([(p, u)] : List (Str × Value)).length } :=
    lam_startP I L ru e0 hr.hd un hns kp
  refine PySem.W.kla_codeExpr (wpAny_mono ((hbody _ _ s2 H2 (hr.deeper _)).run [] _ _ H2 Q J q) (fun v s' hq => ?_) fun e s' hq => hq)
  obtain ⟨w', H', J', rv, q⟩ := hq
  exact ⟨w', H', J'.os, J'.bare, J'.base, J'.hok, rv, q⟩
end
/-- in a def's context, entered where the lambda lives -/
theorem Lives.at {CXg : CXT} {Eg : XK} {P : Program} {w : World} {K : PySem.W.Frag} {mg : Str → Option Value} {base : Heap} {Ng : List Str} {qg : Str} {sg : Scope} {g : Addr} {cdg : Value} {A : Around} {outer : List Env} {s sZ : Shared} {H HZ : Hp} {pn : List (Addr × Obj)} {xe : Value → Shared → Prop} {pinsZ : List (Addr × Obj)} {σZ : L2.St} {k : Nat} {f c' : Addr} {q : Str} {tl : V → Hp → VK → Prop}
    (L : Lives P w K mg base k f c' q tl (frs outer) s H) (I : Inv ((cxOf CXg P w K mg base Ng qg sg g cdg A outer s H Eg).tr pn xe) pinsZ σZ HZ sZ) :
    Lives P w K mg base k f c' q tl (frs (envOfC qg sg s.heap.objs.size g cdg :: outer)) sZ HZ := by
  have sub : ∀ b ∈ frs outer, b ∈ frs (envOfC qg sg s.heap.objs.size g cdg :: outer) := fun b hb => by
    unfold frs at hb ⊢
    obtain ⟨e, he, h2⟩ := List.mem_filterMap.mp hb
    exact List.mem_filterMap.mpr ⟨e, List.mem_cons_of_mem _ he, h2⟩
  have nf : f ∉ frs (envOfC qg sg s.heap.objs.size g cdg :: outer) := fun hb => by
    rcases List.mem_cons.mp (I.stkSub f hb) with e | e
    · obtain ⟨nm, q', pa, body, sc, cl, pm, ctv, ho⟩ := L.obj
      have h1 := Heap.lt_size ho
      have e : f = s.heap.objs.size := e
      rw [e] at h1
      exact Nat.lt_irrefl _ h1
    · exact L.fr e
  exact L.step sub nf (Un.mono (show Un (frs outer) [] H HZ s.heap sZ.heap from I.base) sub (fun _ h => h))
def tActS (i : Nat) (f c' : Addr) (q : Str) (tl : V → Hp → VK → Prop) (ta : TA) : TE := fun σ H Q => σ[i]? = some (some (.ref f)) ∧ ta σ H fun xs H1 => ∃ x, xs = [x] ∧ H1 c' = some (CodeO c' q) ∧ tl x H1 Q
/-- a(e), in the def that got the lambda -/
theorem pe_actS {CXg : CXT} {Eg : XK} {P : Program} {w : World} {K : PySem.W.Frag} {mg : Str → Option Value} {base : Heap} {Ng : List Str} {qg : Str} {sg : Scope} {g f c' : Addr} {cdg : Value} {A : Around} {outer : List Env} {s : Shared} {H : Hp} {k i : Nat} {a q : Str} {pn : List (Addr × Obj)} {xe : Value → Shared → Prop} {tl : V → Hp → VK → Prop} {ta : TA} {e : Expr} {p1 p2 : Pos}
    (Lv : Lives P w K mg base k f c' q tl (frs outer) s H) (hr : Room (k + 1) (A.deeper (envOfC qg sg s.heap.objs.size g cdg)))
    (hN : Ng[i]? = some a) (hv : Vis sg a) (ha : PA ((cxOf CXg P w K mg base Ng qg sg g cdg A outer s H Eg).tr pn xe) [e] ta)
    (hd : (a == ("__debug__" : Str)) = false := by decide) (hcd : (a == ("__classdict__" : Str)) = false := by decide)
    (he : starEach [e] ((cxOf CXg P w K mg base Ng qg sg g cdg A outer s H Eg).tr pn xe).env = (false, eval e ((cxOf CXg P w K mg base Ng qg sg g cdg A outer s H Eg).tr pn xe).env) :: starEach [] ((cxOf CXg P w K mg base Ng qg sg g cdg A outer s H Eg).tr pn xe).env := by rfl)
    (hpl : (backTo p2 (starEach [] ((cxOf CXg P w K mg base Ng qg sg g cdg A outer s H Eg).tr pn xe).env)).any (·.1) = false := by rfl) :
    PE ((cxOf CXg P w K mg base Ng qg sg g cdg A outer s H Eg).tr pn xe) (.Call (.Name a p1) [e] [] p2) (tActS i f c' q tl ta) := by
  refine ⟨fun pinsZ sZ σZ HZ Q IZ h => ?_⟩
  obtain ⟨hs, ht⟩ := h
  refine wpAny_Call_Name_kw (thn ((pe_var (pos := p1) (i := i) hN hv hd hcd).run pinsZ sZ σZ HZ (fun v H1 => v = .ref f ∧ H1 = HZ) IZ ⟨.ref f, hs, rfl, rfl⟩) fun u s1 ⟨v, H1, I1, r1, q1⟩ => ?_)
  obtain ⟨ev, eH⟩ := q1
  subst ev
  rw [eH] at I1
  obtain rfl : u = Value.ref f := r1
  have fnAt : ∀ (σ' : L2.St) (H' : Hp) (s' : Shared), Inv ((cxOf CXg P w K mg base Ng qg sg g cdg A outer s H Eg).tr pn xe) pinsZ σ' H' s' → PySem.W.FnAt f s'.heap := fun σ' H' s' I' => by
    obtain ⟨nm, q', pa, body, sc, cl, pm, ctv, ho⟩ := (Lv.at I').obj
    exact ⟨_, _, _, _, ho⟩
  refine PySem.W.callWith_F (fnAt _ _ _ I1) (thn (ha.run p2 pinsZ s1 σZ HZ _ I1 ht) fun us s2 ⟨vs, H2, I2, r2, x, ex, hc, q⟩ => ⟨fnAt _ _ _ I2, ?_⟩) he hpl
  subst ex
  obtain ⟨u, rfl, ru⟩ := vals1 r2
  have L2' := Lv.at I2
  have rc := L2'.act (A.deeper (envOfC qg sg s.heap.objs.size g cdg)) (envOfC qg sg s.heap.objs.size g cdg :: outer) s2 H2 u x Q hr I2.env0 (fun _ h => h) L2'.fr Un.refl ru hc q
  have hx : Passes (L2.CX P w) ((cxOf CXg P w K mg base Ng qg sg g cdg A outer s H Eg).tr pn xe) C8.E0 := passes_call takes0 (fun _ _ _ _ h => h)
  refine wpAny_call (codeAny_mono rc fun r s' hq => ?_)
  cases r with
  | error e => exact hx pinsZ σZ H2 s2 e s' I2 hq
  | ok fl =>
    cases fl with
    | ret u => exact I2.after hq
    | next => exact False.elim hq
    | brk => exact False.elim hq
    | cont => exact False.elim hq
/-- the def that calls what it got as its second argument, or hands it on; TT: what it makes of the lambda's reading -/
def GivesS (P : Program) (w : World) (K : PySem.W.Frag) (mg : Str → Option Value) (base : Heap) (k j : Nat) (Ng : List Str) (x : Str) (sg : Scope) (g : Addr) (cdg : Value) (bg : List Stmt) (q : Str) (TT : (V → Hp → VK → Prop) → V → Hp → VK → Prop) : Prop :=
  ∀ (A : Around) (outer : List Env) (s : Shared) (H : Hp) (f c' : Addr) (v0 : V) (Q : VK) (tl : V → Hp → VK → Prop), Room (k + j + 1) (A.deeper (envOfC x sg s.heap.objs.size g cdg)) →
    Lives P w K mg base k f c' q tl (frs outer) s H → H c' = some (CodeO c' q) → TT tl v0 H Q →
    ∃ t, PSs (cxOf C8.CX0 P w K mg base Ng x sg g cdg A outer s H C8.E0).nox bg t ∧ t { nx := fun _ H' => Q .non H', rt := Q } (L2.start Ng [v0, .ref f]) H
def tLamS (T : List (Addr × Str)) (TT : (V → Hp → VK → Prop) → V → Hp → VK → Prop) (ip : Nat) (t0 : TE) (t : TE) : TE := fun σ H Q => t0 σ H fun v0 H0 => Tabs T H0 ∧ ∀ H1, ExtN H0 H1 → Tabs T H1 → TT (fun y H' Q' => t (σ.set ip (some y)) H' Q') v0 H1 Q
def tPassS (i : Nat) (f c' : Addr) (q : Str) (tl : V → Hp → VK → Prop) (TT : (V → Hp → VK → Prop) → V → Hp → VK → Prop) (t0 : TE) : TE := fun σ H Q => t0 σ H fun v0 H0 => σ[i]? = some (some (.ref f)) ∧ H0 c' = some (CodeO c' q) ∧ TT tl v0 H0 Q
section
variable {X : Cx}
/-- x(e0, lambda p: body) -/
theorem pe_lamcallS {T : List (Addr × Str)} {TT : (V → Hp → VK → Prop) → V → Hp → VK → Prop} {x a0 a pr : Str} {g c P : Addr} {k j ip : Nat} {pg : Arguments} {bg : List Stmt} {sg : Scope} {dV kV doc pm cdv ct oc : Value} {an od : Option Addr} {osl : Array (Option Value)} {Ng : List Str}
    {params : Arguments} {body e0 : Expr} {scope : Scope} {t0 : TE} {t : TE} {p lpos pos : Pos} (hg : Gl X x) (hm : X.mg x = some (.ref g)) (hk : PySem.W.keepIn X.K (.ref g) = true)
    (lk : X.K.lookup g = some ⟨oc, od, .func (PySem.W.fnOf x x pg bg sg dV kV doc pm an cdv ct), osl⟩) (hcg : PySem.W.codeIn X.K cdv x = true) (hb : L2.Binds X.K (PySem.W.fnOf x x pg bg sg dV kV doc pm an cdv ct) [a0, a] []) (Sg : FnScope Ng [a0, a] sg)
    (hG : GivesS X.prog X.w X.K X.mg X.base k j Ng x sg g cdv bg (X.env.qual ++ "<lambda>") TT) (h0 : PE X e0 t0)
    (TB : TabB X.base X.mg c P) (hcode : X.env.code = .ref c) (hmT : (P, X.env.qual ++ "<lambda>") ∈ T) (hu : ∀ p ∈ T, p.1 = P → p.2 = X.env.qual ++ "<lambda>") (hr : Room (k + j + 2) X.A) (L : LamP X.env.scope scope X.N pr ip) (hdef : defaultsOf params X.env = ([], []))
    (hbind : ∀ (q : Str) (cl : List (Str × Addr)) (pm cv ctv u : Value), bindArgs (PySem.W.kla_fn "<lambda>" q params body scope cl pm cv ctv) ⟨[u], []⟩ = pure [(pr, u)])
    (hbody : ∀ (A : Around) (outer : List Env) (s : Shared) (H : Hp) (f c' : Addr), Room k (A.deeper (lamEnv X scope s.heap.objs.size f c')) → PE (lamCx X A outer s H C8.E0 scope f c') body t)
    (hdb : (x == ("__debug__" : Str)) = false := by decide)
    (he : starEach [e0, .Lambda params body scope lpos] X.env = (false, eval e0 X.env) :: starEach [.Lambda params body scope lpos] X.env := by rfl) :
    PE X (.Call (.Name x p) [e0, .Lambda params body scope lpos] [] pos) (tLamS T TT ip t0 t) := by
  refine ⟨fun pins s σ H Q I h => ?_⟩
  refine wpAny_Call_Name_kw (ld_glob I hg hm ?_ hdb)
  refine PySem.W.callWith_K (h₀ := X.base) I.ok.mod.kin hk ?_ he (by rfl)
  rw [he]
  show wpAny _ _ (spliced ((false, eval e0 X.env) :: (false, eval (.Lambda params body scope lpos) X.env) :: backTo pos (starEach [] X.env))) _ _ s
  refine Calls.spliced_cons (thn (h0.run pins s σ H _ I h) fun u0 s0 ⟨v0, H0, I0, r0, hT, h⟩ => ?_)
  refine Calls.spliced_cons (lam_make2 I0 TB hcode hmT hu hT hdef (L.has I0.ok) fun f c' pm' ctv H1 s' I1 eN T1 hf hfn hfr hco => ?_)
  refine Calls.spliced_nil ⟨I1.kIn, ?_⟩
  have rc : codeAny (model X.prog X.w) X.A (.call (.ref g) ⟨[u0, .ref f], []⟩) (CR C8.CX0 X.stack X.prog X.w H1 s' Q C8.E0) s' := by
    refine run_ofS (N := Ng) (ps := [a0, a]) (us := [u0, .ref f]) (vs := [v0, .ref f]) lk hcg Sg hr I1.env0 (hb s' [u0, .ref f] I1.kIn rfl) (.cons r0 (.cons rfl .nil)) rfl fun hr' => ?_
    have Lv := lam_lives (k := k) I1 L hf hfn hfr (fun u => hbind _ _ _ _ _ u) (fun A outer s H hr2 => hbody A outer s H f c' hr2)
    obtain ⟨t', ht', hq'⟩ := hG X.A X.stack s' H1 f c' v0 Q _ hr' Lv hco (h H1 eN T1)
    exact ⟨t', ht'.nox, hq'⟩
  refine wpAny_call (codeAny_mono rc fun r s2 hq => ?_)
  cases r with
  | error e => exact (show False from hq).elim
  | ok fl =>
    cases fl with
    | ret u => exact I1.after hq
    | next => exact False.elim hq
    | brk => exact False.elim hq
    | cont => exact False.elim hq
end
/-- x(e0, a): the lambda handed on -/
theorem pe_passS {CXg : CXT} {Eg : XK} {P : Program} {w : World} {K : PySem.W.Frag} {mg : Str → Option Value} {base : Heap} {Nz : List Str} {qz : Str} {sz : Scope} {z f c' : Addr} {cdz : Value} {A : Around} {outer : List Env} {s : Shared} {H : Hp} {k j i : Nat} {q : Str} {pn : List (Addr × Obj)} {xe : Value → Shared → Prop} {tl : V → Hp → VK → Prop} {TT : (V → Hp → VK → Prop) → V → Hp → VK → Prop} {x a0 a1 a : Str} {g : Addr}
    {pg : Arguments} {bg : List Stmt} {sg : Scope} {dV kV doc pm cdv ct oc : Value} {an od : Option Addr} {osl : Array (Option Value)} {Ng : List Str} {e0 : Expr} {t0 : TE} {p p1 pos : Pos}
    (Lv : Lives P w K mg base k f c' q tl (frs outer) s H) (hr : Room (k + j + 2) (A.deeper (envOfC qz sz s.heap.objs.size z cdz)))
    (hg : Gl ((cxOf CXg P w K mg base Nz qz sz z cdz A outer s H Eg).tr pn xe) x) (hm : mg x = some (.ref g)) (hk : PySem.W.keepIn K (.ref g) = true)
    (lk : K.lookup g = some ⟨oc, od, .func (PySem.W.fnOf x x pg bg sg dV kV doc pm an cdv ct), osl⟩) (hcg : PySem.W.codeIn K cdv x = true) (hb : L2.Binds K (PySem.W.fnOf x x pg bg sg dV kV doc pm an cdv ct) [a0, a1] []) (Sg : FnScope Ng [a0, a1] sg)
    (hG : GivesS P w K mg base k j Ng x sg g cdv bg q TT) (h0 : PE ((cxOf CXg P w K mg base Nz qz sz z cdz A outer s H Eg).tr pn xe) e0 t0)
    (hN : Nz[i]? = some a) (hv : Vis sz a)
    (hd : (a == ("__debug__" : Str)) = false := by decide) (hcd : (a == ("__classdict__" : Str)) = false := by decide) (hdb : (x == ("__debug__" : Str)) = false := by decide)
    (he : starEach [e0, .Name a p1] ((cxOf CXg P w K mg base Nz qz sz z cdz A outer s H Eg).tr pn xe).env = (false, eval e0 ((cxOf CXg P w K mg base Nz qz sz z cdz A outer s H Eg).tr pn xe).env) :: starEach [.Name a p1] ((cxOf CXg P w K mg base Nz qz sz z cdz A outer s H Eg).tr pn xe).env := by rfl) :
    PE ((cxOf CXg P w K mg base Nz qz sz z cdz A outer s H Eg).tr pn xe) (.Call (.Name x p) [e0, .Name a p1] [] pos) (tPassS i f c' q tl TT t0) := by
  refine ⟨fun pinsZ sZ σZ HZ Q IZ h => ?_⟩
  refine wpAny_Call_Name_kw (ld_glob IZ hg hm ?_ hdb)
  refine PySem.W.callWith_K (h₀ := base) IZ.ok.mod.kin hk ?_ he (by rfl)
  rw [he]
  show wpAny _ _ (spliced ((false, eval e0 ((cxOf CXg P w K mg base Nz qz sz z cdz A outer s H Eg).tr pn xe).env) :: (false, eval (.Name a p1) ((cxOf CXg P w K mg base Nz qz sz z cdz A outer s H Eg).tr pn xe).env) :: backTo pos (starEach [] ((cxOf CXg P w K mg base Nz qz sz z cdz A outer s H Eg).tr pn xe).env))) _ _ sZ
  refine Calls.spliced_cons (thn (h0.run pinsZ sZ σZ HZ _ IZ h) fun u0 s0 ⟨v0, H0, I0, r0, hs, hc, ht⟩ => ?_)
  refine Calls.spliced_cons (thn ((pe_var (pos := p1) (i := i) hN hv hd hcd).run pinsZ s0 σZ H0 (fun v H1 => v = .ref f ∧ H1 = H0) I0 ⟨.ref f, hs, rfl, rfl⟩) fun u s1 ⟨v, H1, I1, r1, q1⟩ => ?_)
  obtain ⟨ev, eH⟩ := q1
  subst ev
  rw [eH] at I1
  obtain rfl : u = Value.ref f := r1
  refine Calls.spliced_nil ⟨I1.kIn, ?_⟩
  have rc : codeAny (model P w) (A.deeper (envOfC qz sz s.heap.objs.size z cdz)) (.call (.ref g) ⟨[u0, .ref f], []⟩) (CR C8.CX0 (envOfC qz sz s.heap.objs.size z cdz :: outer) P w H0 s1 Q C8.E0) s1 := by
    refine run_ofS (N := Ng) (ps := [a0, a1]) (us := [u0, .ref f]) (vs := [v0, .ref f]) lk hcg Sg hr I1.env0 (hb s1 [u0, .ref f] I1.kIn rfl) (.cons r0 (.cons rfl .nil)) rfl fun hr' => ?_
    obtain ⟨t', ht', hq'⟩ := hG (A.deeper (envOfC qz sz s.heap.objs.size z cdz)) (envOfC qz sz s.heap.objs.size z cdz :: outer) s1 H0 f c' v0 Q tl hr' (Lv.at I1) hc ht
    exact ⟨t', ht'.nox, hq'⟩
  refine wpAny_call (codeAny_mono rc fun r s2 hq => ?_)
  cases r with
  | error e => exact (show False from hq).elim
  | ok fl =>
    cases fl with
    | ret u => exact I1.after hq
    | next => exact False.elim hq
    | brk => exact False.elim hq
    | cont => exact False.elim hq
end Vf

set_option Elab.async false
set_option linter.all false
set_option maxRecDepth 100000
set_option maxHeartbeats 4000000
namespace Vf
open PySem PySem.Spec PyProof.Rows L2 TL
/-! ### rows of things, nets -/
def nV (w : Nat) : V := .int (w : Int)
def oV : Option Int → V
  | none => .non
  | some x => .int x
theorem oV_inj : ∀ {a b : Option Int}, oV a = oV b → a = b
  | none, none, _ => rfl
  | some _, some _, h => by rw [V.int.inj h]
  | none, some _, h => by cases h
  | some _, none, h => by cases h
theorem szN {n : Nat} (h : n < 100000) : n < sizeLine := Nat.lt_of_lt_of_le h (by decide)
theorem bTr {p : Prop} [Decidable p] (h : p) : V.bl (decide p) = V.bl true := by rw [decide_eq_true h]
theorem bFa {p : Prop} [Decidable p] (h : ¬ p) : V.bl (decide p) = V.bl false := by rw [decide_eq_false h]
theorem bNT {p : Prop} [Decidable p] (h : p) : V.bl (!decide p) = V.bl false := by rw [decide_eq_true h]; rfl
theorem bNF {p : Prop} [Decidable p] (h : ¬ p) : V.bl (!decide p) = V.bl true := by rw [decide_eq_false h]; rfl
/-- what stands in a list or tuple, thing by thing -/
def LV {α : Type} (R : V → α → Prop) (vs : List V) (rs : List α) : Prop := vs.length = rs.length ∧ ∀ (i : Nat) (r : α), rs[i]? = some r → ∃ x, vs[i]? = some x ∧ R x r
theorem LV.nil {α : Type} {R : V → α → Prop} : LV R [] [] := ⟨rfl, fun i r h => by cases i <;> cases h⟩
theorem LV.mono {α : Type} {R R' : V → α → Prop} {vs : List V} {rs : List α} (h : LV R vs rs) (k : ∀ x r, R x r → R' x r) : LV R' vs rs := ⟨h.1, fun i r e => by
  obtain ⟨x, e1, e2⟩ := h.2 i r e
  exact ⟨x, e1, k _ _ e2⟩⟩
theorem LV.snoc {α : Type} {R : V → α → Prop} {vs : List V} {rs : List α} {x : V} {r : α} (h : LV R vs rs) (hx : R x r) : LV R (vs ++ [x]) (rs ++ [r]) := by
  refine ⟨by rw [List.length_append, List.length_append, h.1]; rfl, fun i q e => ?_⟩
  by_cases hi : i < rs.length
  · rw [List.getElem?_append_left hi] at e
    obtain ⟨y, e1, e2⟩ := h.2 i q e
    exact ⟨y, by rw [List.getElem?_append_left (by rw [h.1]; exact hi)]; exact e1, e2⟩
  · rw [List.getElem?_append_right (by omega)] at e
    have e0 : i - rs.length = 0 := by
      have := (List.getElem?_eq_some_iff.mp e).1
      simp at this
      exact this
    rw [e0] at e
    have e : r = q := Option.some.inj e
    subst e
    exact ⟨x, by rw [List.getElem?_append_right (by rw [h.1]; omega), h.1, e0]; rfl, hx⟩
theorem LV.at {α : Type} {R : V → α → Prop} {vs : List V} {rs : List α} {i : Nat} {x : V} (h : LV R vs rs) (e : vs[i]? = some x) : ∃ r, rs[i]? = some r ∧ R x r := by
  have hi : i < rs.length := by rw [← h.1]; exact (List.getElem?_eq_some_iff.mp e).1
  obtain ⟨y, e1, e2⟩ := h.2 i _ (List.getElem?_eq_getElem hi)
  rw [e] at e1
  have := Option.some.inj e1
  subst this
  exact ⟨_, List.getElem?_eq_getElem hi, e2⟩
abbrev Arc := Nat × Nat × Nat
def ArcV (H : Hp) (x : V) (r : Arc) : Prop := ∃ b, x = .ref b ∧ H b = some (.tup [nV r.1, nV r.2.1, nV r.2.2])
theorem ArcV.mono {H H' : Hp} {x : V} {r : Arc} (h : ArcV H x r) (k : ∀ a xs, H a = some (.tup xs) → H' a = some (.tup xs)) : ArcV H' x r := by
  obtain ⟨b, e, f⟩ := h
  exact ⟨b, e, k _ _ f⟩
theorem kpTup {d l : Addr} {H H' : Hp} (D : DI d l H) (k : Kp d H H') : ∀ a xs, H a = some (.tup xs) → H' a = some (.tup xs) := fun a xs e => by
  obtain ⟨n, ⟨ns, h1⟩, i, b, s, c, h0, h2⟩ := D
  exact k _ _ (fun z => by rw [z, h2] at e; cases e) e
end Vf

set_option Elab.async false
set_option linter.all false
set_option maxRecDepth 100000
set_option maxHeartbeats 4000000
namespace Vf
open PySem PySem.Spec PyProof.Rows L2 TL
/-! ### least totals along arcs: f the bounds, g the tails, of the arcs Pr -/
structure Bd (Pr : Arc → Prop) (f g : Nat → Option Nat) : Prop where
  z : f 0 = some 0 ∧ g 0 = none
  s : ∀ v y, v ≠ 0 → f v = some y → ∃ u c x, g v = some u ∧ Pr (u, v, c) ∧ f u = some x ∧ y = x + c ∧ ∀ u' c' x', Pr (u', v, c') → f u' = some x' → y ≤ x' + c' ∧ (y = x' + c' → u ≤ u')
  n : ∀ v, v ≠ 0 → f v = none → g v = none ∧ ∀ u' c', Pr (u', v, c') → f u' = none
def fset (f : Nat → Option Nat) (h : Nat) (x : Nat) : Nat → Option Nat := fun j => if j = h then some x else f j
theorem fset_same {f : Nat → Option Nat} {h x : Nat} : fset f h x h = some x := if_pos rfl
theorem fset_ne {f : Nat → Option Nat} {h x j : Nat} (e : j ≠ h) : fset f h x j = f j := if_neg e
theorem Bd.start : Bd (fun _ => False) (fset (fun _ => none) 0 0) (fun _ => none) where
  z := ⟨fset_same, rfl⟩
  s := fun v y hv e => by rw [fset_ne hv] at e; cases e
  n := fun v hv e => ⟨rfl, fun _ _ h => h.elim⟩
theorem Bd.congr {P P' : Arc → Prop} {f g : Nat → Option Nat} (B : Bd P f g) (h : ∀ a, P' a ↔ P a) : Bd P' f g := by
  have : P' = P := funext fun a => propext (h a)
  rw [this]; exact B
theorem Bd.put {Pr : Arc → Prop} {f g : Nat → Option Nat} {t h c x : Nat} (B : Bd Pr f g) (hp : ∀ a, Pr a → a.1 ≤ t) (th : t < h) (ft : f t = some x) (lo : ∀ y, f h = some y → x + c < y) :
    Bd (fun a => Pr a ∨ a = (t, h, c)) (fset f h (x + c)) (fset g h t) where
  z := ⟨by rw [fset_ne (by omega)]; exact B.z.1, by rw [fset_ne (by omega)]; exact B.z.2⟩
  s := fun v y hv e => by
    by_cases hh : v = h
    · subst hh
      rw [fset_same] at e
      have e := Option.some.inj e
      refine ⟨t, c, x, fset_same, .inr rfl, by rw [fset_ne (by omega)]; exact ft, e.symm, fun u' c' x' hP e' => ?_⟩
      rcases hP with hP | hP
      · have hu := hp _ hP
        have hu : u' ≤ t := hu
        rw [fset_ne (by omega)] at e'
        cases q : f v with
        | none => rw [(B.n v hv q).2 u' c' hP] at e'; cases e'
        | some y0 =>
          obtain ⟨_, _, _, _, _, _, _, H⟩ := B.s v y0 hv q
          have := H u' c' x' hP e'
          have := lo y0 q
          omega
      · cases hP
        rw [fset_ne (by omega), ft] at e'
        have := Option.some.inj e'
        omega
    · rw [fset_ne hh] at e
      obtain ⟨u, c0, x0, h1, h2, h3, h4, H⟩ := B.s v y hv e
      have hu : u ≤ t := hp _ h2
      refine ⟨u, c0, x0, by rw [fset_ne hh]; exact h1, .inl h2, by rw [fset_ne (by omega)]; exact h3, h4, fun u' c' x' hP e' => ?_⟩
      rcases hP with hP | hP
      · have hu' : u' ≤ t := hp _ hP
        rw [fset_ne (by omega)] at e'
        exact H u' c' x' hP e'
      · cases hP
        exact absurd rfl hh
  n := fun v hv e => by
    by_cases hh : v = h
    · subst hh; rw [fset_same] at e; cases e
    · rw [fset_ne hh] at e
      obtain ⟨h1, h2⟩ := B.n v hv e
      refine ⟨by rw [fset_ne hh]; exact h1, fun u' c' hP => ?_⟩
      rcases hP with hP | hP
      · have hu' : u' ≤ t := hp _ hP
        rw [fset_ne (by omega)]
        exact h2 u' c' hP
      · cases hP
        exact absurd rfl hh
theorem Bd.skip {Pr : Arc → Prop} {f g : Nat → Option Nat} {t h c x y : Nat} (B : Bd Pr f g) (hp : ∀ a, Pr a → a.1 ≤ t) (th : t < h) (ft : f t = some x) (fh : f h = some y) (le : y ≤ x + c) :
    Bd (fun a => Pr a ∨ a = (t, h, c)) f g where
  z := B.z
  s := fun v y' hv e => by
    obtain ⟨u, c0, x0, h1, h2, h3, h4, H⟩ := B.s v y' hv e
    refine ⟨u, c0, x0, h1, .inl h2, h3, h4, fun u' c' x' hP e' => ?_⟩
    rcases hP with hP | hP
    · exact H u' c' x' hP e'
    · cases hP
      rw [ft] at e'
      rw [fh] at e
      have e1 := Option.some.inj e'
      have e2 := Option.some.inj e
      have hu : u ≤ t := hp _ h2
      exact ⟨by omega, fun _ => hu⟩
  n := fun v hv e => by
    obtain ⟨h1, h2⟩ := B.n v hv e
    refine ⟨h1, fun u' c' hP => ?_⟩
    rcases hP with hP | hP
    · exact h2 u' c' hP
    · cases hP
      rw [fh] at e; cases e
theorem Bd.none_ {Pr P2 : Arc → Prop} {f g : Nat → Option Nat} (B : Bd Pr f g) (h : ∀ a, P2 a → f a.1 = none) : Bd (fun a => Pr a ∨ P2 a) f g where
  z := B.z
  s := fun v y hv e => by
    obtain ⟨u, c0, x0, h1, h2, h3, h4, H⟩ := B.s v y hv e
    refine ⟨u, c0, x0, h1, .inl h2, h3, h4, fun u' c' x' hP e' => ?_⟩
    rcases hP with hP | hP
    · exact H u' c' x' hP e'
    · have := h _ hP
      have this : f u' = none := this
      rw [this] at e'; cases e'
  n := fun v hv e => by
    obtain ⟨h1, h2⟩ := B.n v hv e
    refine ⟨h1, fun u' c' hP => ?_⟩
    rcases hP with hP | hP
    · exact h2 u' c' hP
    · exact h _ hP
theorem Bd.le {Pr : Arc → Prop} {f g : Nat → Option Nat} (B : Bd Pr f g) {u v c x : Nat} (hP : Pr (u, v, c)) (e : f u = some x) : ∃ y, f v = some y ∧ y ≤ x + c := by
  by_cases hv : v = 0
  · subst hv; exact ⟨0, B.z.1, Nat.zero_le _⟩
  · cases q : f v with
    | none => rw [(B.n v hv q).2 u c hP] at e; cases e
    | some y =>
      obtain ⟨_, _, _, _, _, _, _, H⟩ := B.s v y hv q
      exact ⟨y, rfl, (H u c x hP e).1⟩
/-- the cost of the arc from u to v -/
def cst (as : List Arc) (u v : Nat) : Option Nat := (as.find? fun a => decide (a.1 = u ∧ a.2.1 = v)).map (·.2.2)
theorem cst_mem {as : List Arc} {u v c : Nat} (h : cst as u v = some c) : (u, v, c) ∈ as := by
  unfold cst at h
  cases q : as.find? (fun a => decide (a.1 = u ∧ a.2.1 = v)) with
  | none => rw [q] at h; cases h
  | some a =>
    rw [q] at h
    have h := Option.some.inj h
    have h1 := List.find?_some q
    have h1 := of_decide_eq_true h1
    have h2 := List.mem_of_find?_eq_some q
    obtain ⟨a1, a2, a3⟩ := a
    obtain ⟨rfl, rfl⟩ := h1
    have h : a3 = c := h
    rw [← h]; exact h2
def ArcLt (a b : Arc) : Prop := a.1 < b.1 ∨ a.1 = b.1 ∧ a.2.1 < b.2.1
theorem cst_of {as : List Arc} {u v c : Nat} (pw : as.Pairwise fun a b => a.1 < b.1 ∨ a.1 = b.1 ∧ a.2.1 < b.2.1) (h : (u, v, c) ∈ as) : cst as u v = some c := by
  cases q : cst as u v with
  | some c2 =>
    have h2 := cst_mem q
    obtain ⟨i, hi, ei⟩ := List.mem_iff_getElem.mp h
    obtain ⟨j, hj, ej⟩ := List.mem_iff_getElem.mp h2
    rcases Nat.lt_trichotomy i j with l | l | l
    · have := List.pairwise_iff_getElem.mp pw i j hi hj l
      rw [ei, ej] at this
      simp at this
    · subst l
      rw [ei] at ej
      cases ej; rfl
    · have := List.pairwise_iff_getElem.mp pw j i hj hi l
      rw [ei, ej] at this
      simp at this
  | none =>
    unfold cst at q
    have q2 : as.find? (fun a => decide (a.1 = u ∧ a.2.1 = v)) = none := by
      cases r : as.find? (fun a => decide (a.1 = u ∧ a.2.1 = v)) with
      | none => rfl
      | some a => rw [r] at q; cases q
    have := List.find?_eq_none.mp q2 _ h
    simp at this
theorem cst_take {as : List Arc} {i : Nat} {a : Arc} (pw : as.Pairwise fun a b => a.1 < b.1 ∨ a.1 = b.1 ∧ a.2.1 < b.2.1) (e : as[i]? = some a) (u v : Nat) :
    cst (as.take (i + 1)) u v = if u = a.1 ∧ v = a.2.1 then some a.2.2 else cst (as.take i) u v := by
  obtain ⟨hi, ei⟩ := List.getElem?_eq_some_iff.mp e
  have et : as.take (i + 1) = as.take i ++ [a] := by rw [List.take_succ, e]; rfl
  have pw2 := pw.sublist (List.take_sublist (i + 1) as)
  by_cases c : u = a.1 ∧ v = a.2.1
  · rw [if_pos c, c.1, c.2]
    refine cst_of pw2 ?_
    rw [et]
    exact List.mem_append_right _ (List.mem_singleton.mpr rfl)
  · rw [if_neg c, et]
    unfold cst
    rw [List.find?_append]
    have : [a].find? (fun a => decide (a.1 = u ∧ a.2.1 = v)) = none := by
      rw [List.find?_eq_none]
      intro x hx
      rw [List.mem_singleton.mp hx]
      intro z
      have z := of_decide_eq_true z
      exact c ⟨z.1.symm, z.2.symm⟩
    rw [this, Option.or_none]
def stepT (as : List Arc) (acc : Option Nat) (u v : Nat) : Option Nat := match acc with
  | none => none
  | some x => (cst as u v).map (x + ·)
def totK (as : List Arc) (ns : List Nat) : Nat → Option Nat
  | 0 => some 0
  | k + 1 => stepT as (totK as ns k) (ns.getD k 0) (ns.getD (k + 1) 0)
def tot (as : List Arc) (ns : List Nat) : Option Nat := totK as ns (ns.length - 1)
theorem stepT_some {as : List Arc} {acc : Option Nat} {u v t : Nat} (h : stepT as acc u v = some t) : ∃ x c, acc = some x ∧ (u, v, c) ∈ as ∧ t = x + c := by
  unfold stepT at h
  cases acc with
  | none => cases h
  | some x =>
    have h : (cst as u v).map (x + ·) = some t := h
    cases q : cst as u v with
    | none => rw [q] at h; cases h
    | some c =>
      rw [q] at h
      exact ⟨x, c, rfl, cst_mem q, (Option.some.inj h).symm⟩
theorem stepT_of {as : List Arc} {x u v c : Nat} (pw : as.Pairwise fun a b => a.1 < b.1 ∨ a.1 = b.1 ∧ a.2.1 < b.2.1) (h : (u, v, c) ∈ as) : stepT as (some x) u v = some (x + c) := by
  show (cst as u v).map (x + ·) = _
  rw [cst_of pw h]; rfl
theorem totK_low {as : List Arc} {f g : Nat → Option Nat} (B : Bd (· ∈ as) f g) {ns : List Nat} (h0 : ns.getD 0 0 = 0) : ∀ (k t : Nat), totK as ns k = some t → ∃ y, f (ns.getD k 0) = some y ∧ y ≤ t
  | 0, t, h => ⟨0, by rw [h0]; exact B.z.1, Nat.zero_le _⟩
  | k + 1, t, h => by
    obtain ⟨x, c, e, hm, rfl⟩ := stepT_some h
    obtain ⟨y0, e1, l1⟩ := totK_low B h0 k x e
    obtain ⟨y, e2, l2⟩ := B.le hm e1
    exact ⟨y, e2, by omega⟩
theorem totK_pre {as : List Arc} {ns ms : List Nat} : ∀ k, k < ns.length → totK as (ns ++ ms) k = totK as ns k
  | 0, _ => rfl
  | k + 1, h => by
    show stepT as (totK as (ns ++ ms) k) _ _ = stepT as (totK as ns k) _ _
    rw [totK_pre k (by omega)]
    have e : ∀ j, j < ns.length → (ns ++ ms).getD j 0 = ns.getD j 0 := fun j hj => by
      rw [List.getD_eq_getElem?_getD, List.getD_eq_getElem?_getD, List.getElem?_append_left hj]
    rw [e k (by omega), e (k + 1) h]
theorem tot_snoc {as : List Arc} {ns : List Nat} (u v : Nat) (hl : 0 < ns.length) (hu : ns.getD (ns.length - 1) 0 = u) : tot as (ns ++ [v]) = stepT as (tot as ns) u v := by
  unfold tot
  rw [List.length_append]
  show totK as (ns ++ [v]) (ns.length + 1 - 1) = _
  obtain ⟨m, hm⟩ : ∃ m, ns.length = m + 1 := ⟨ns.length - 1, by omega⟩
  rw [hm] at hu ⊢
  show stepT as (totK as (ns ++ [v]) m) _ _ = stepT as (totK as ns m) u v
  rw [totK_pre m (by omega)]
  have e1 : (ns ++ [v]).getD m 0 = u := by
    rw [List.getD_eq_getElem?_getD, List.getElem?_append_left (by omega), ← List.getD_eq_getElem?_getD]; exact hu
  have e2 : (ns ++ [v]).getD (m + 1) 0 = v := by
    rw [List.getD_eq_getElem?_getD, List.getElem?_append_right (by omega), hm]
    simp
  rw [e1, e2]
def mids (b : Nat → Bool) (n : Nat) : List Nat := (List.range n).filterMap fun k => if b k = true then some (k + 1) else none
theorem mids_succ (b : Nat → Bool) (n : Nat) : mids b (n + 1) = mids b n ++ if b n = true then [n + 1] else [] := by
  unfold mids
  rw [List.range_succ, List.filterMap_append]
  congr 1
  by_cases h : b n = true
  · rw [if_pos h]; simp [h]
  · rw [if_neg h]; simp [h]
theorem mids_congr {b b' : Nat → Bool} : ∀ n, (∀ k, k < n → b k = b' k) → mids b n = mids b' n
  | 0, _ => rfl
  | n + 1, h => by rw [mids_succ, mids_succ, mids_congr n (fun k hk => h k (by omega)), h n (by omega)]
theorem mids_len (b : Nat → Bool) : ∀ n, (mids b n).length ≤ n
  | 0 => Nat.le_refl _
  | n + 1 => by
    rw [mids_succ, List.length_append]
    have := mids_len b n
    split
    · show _ + 1 ≤ _; omega
    · show _ + 0 ≤ _; omega
def nodesOf (b : Nat → Bool) (v : Nat) : List Nat := 0 :: (mids b (v - 1) ++ [v])
theorem nodes_0 (b : Nat → Bool) (v : Nat) : (nodesOf b v).getD 0 0 = 0 := rfl
theorem nodes_len (b : Nat → Bool) (v : Nat) : (nodesOf b v).length = (mids b (v - 1)).length + 2 := by
  show (mids b (v - 1) ++ [v]).length + 1 = _
  rw [List.length_append]; rfl
theorem nodes_last (b : Nat → Bool) (v : Nat) : (nodesOf b v).getD ((nodesOf b v).length - 1) 0 = v := by
  rw [nodes_len]
  show (mids b (v - 1) ++ [v]).getD (mids b (v - 1)).length 0 = v
  rw [List.getD_eq_getElem?_getD, List.getElem?_append_right (Nat.le_refl _)]
  simp
/-- the way to v by the way to u -/
def byU (b : Nat → Bool) (u : Nat) : Nat → Bool := fun k => if k + 1 < u then b k else decide (k + 1 = u)
theorem mids_by (b : Nat → Bool) (u : Nat) (hu : u ≠ 0) : ∀ j, mids (byU b u) (u + j) = mids b (u - 1) ++ [u]
  | 0 => by
    obtain ⟨m, rfl⟩ : ∃ m, u = m + 1 := ⟨u - 1, by omega⟩
    rw [Nat.add_zero, mids_succ, if_pos (by unfold byU; rw [if_neg (by omega)]; exact decide_eq_true rfl), mids_congr m (b' := b) fun k hk => by unfold byU; rw [if_pos (by omega)]]
    rfl
  | j + 1 => by
    show mids (byU b u) (u + j + 1) = _
    rw [mids_succ, mids_by b u hu j, if_neg (by unfold byU; rw [if_neg (by omega)]; exact fun z => by have := of_decide_eq_true z; omega), List.append_nil]
theorem nodes_by (b : Nat → Bool) {u v : Nat} (hu : u ≠ 0) (h : u < v) : nodesOf (byU b u) v = nodesOf b u ++ [v] := by
  unfold nodesOf
  obtain ⟨j, rfl⟩ : ∃ j, v = u + j + 1 := ⟨v - u - 1, by omega⟩
  rw [show u + j + 1 - 1 = u + j by omega, mids_by b u hu]
  rfl
theorem mids_false : ∀ n, mids (fun _ => false) n = []
  | 0 => rfl
  | n + 1 => by rw [mids_succ, mids_false n]; rfl
theorem tot_two {as : List Arc} {v : Nat} : tot as [0, v] = stepT as (some 0) 0 v := rfl
theorem tot_best {as : List Arc} {f g : Nat → Option Nat} (B : Bd (· ∈ as) f g) (up : ∀ a ∈ as, a.1 < a.2.1) (pw : as.Pairwise fun a b => a.1 < b.1 ∨ a.1 = b.1 ∧ a.2.1 < b.2.1) :
    ∀ (n v : Nat), v ≤ n → v ≠ 0 → ∀ y, f v = some y → ∃ b, tot as (nodesOf b v) = some y
  | 0, v, h, hv, _, _ => absurd (Nat.le_zero.mp h) hv
  | n + 1, v, h, hv, y, e => by
    obtain ⟨u, c, x, h1, h2, h3, h4, _⟩ := B.s v y hv e
    have huv : u < v := up _ h2
    by_cases hu : u = 0
    · subst hu
      refine ⟨fun _ => false, ?_⟩
      unfold nodesOf
      rw [mids_false]
      show tot as [0, v] = _
      rw [tot_two, B.z.1] at *
      have := Option.some.inj h3
      rw [stepT_of pw h2, h4, this]
    · obtain ⟨b, hb⟩ := tot_best B up pw n u (by omega) hu x h3
      refine ⟨byU b u, ?_⟩
      rw [nodes_by b hu huv, tot_snoc u v (by rw [nodes_len]; omega) (nodes_last b u), hb, stepT_of pw h2, h4]
/-- masks -/
def maskOf : Nat → (Nat → Bool) → Nat
  | 0, _ => 0
  | n + 1, b => (if b 0 = true then 1 else 0) + 2 * maskOf n (fun k => b (k + 1))
theorem mask_lt : ∀ (n : Nat) (b : Nat → Bool), maskOf n b < 2 ^ n
  | 0, _ => Nat.one_pos
  | n + 1, b => by
    have := mask_lt n (fun k => b (k + 1))
    show (if b 0 = true then 1 else 0) + 2 * maskOf n (fun k => b (k + 1)) < _
    rw [Nat.pow_succ]
    split <;> omega
def bitOf (m k : Nat) : Bool := decide (m / 2 ^ k % 2 = 1)
theorem mask_bit : ∀ (n : Nat) (b : Nat → Bool) (k : Nat), k < n → bitOf (maskOf n b) k = b k
  | 0, _, _, h => absurd h (Nat.not_lt_zero _)
  | n + 1, b, 0, _ => by
    show decide (((if b 0 = true then 1 else 0) + 2 * maskOf n (fun k => b (k + 1))) / 2 ^ 0 % 2 = 1) = b 0
    rw [Nat.pow_zero, Nat.div_one]
    cases h : b 0 with
    | true => exact decide_eq_true (by rw [if_pos rfl]; omega)
    | false => exact decide_eq_false (by rw [if_neg (by simp)]; omega)
  | n + 1, b, k + 1, h => by
    have ih := mask_bit n (fun k => b (k + 1)) k (by omega)
    show decide (((if b 0 = true then 1 else 0) + 2 * maskOf n (fun k => b (k + 1))) / 2 ^ (k + 1) % 2 = 1) = b (k + 1)
    have e : ((if b 0 = true then 1 else 0) + 2 * maskOf n (fun k => b (k + 1))) / 2 ^ (k + 1) = maskOf n (fun k => b (k + 1)) / 2 ^ k := by
      rw [show 2 ^ (k + 1) = 2 * 2 ^ k by rw [Nat.pow_succ, Nat.mul_comm], ← Nat.div_div_eq_div_mul]
      congr 1
      split <;> omega
    rw [e]
    exact ih
theorem nodes_mask (b : Nat → Bool) (v : Nat) : nodesOf (bitOf (maskOf (v - 1) b)) v = nodesOf b v := by
  unfold nodesOf
  rw [mids_congr (v - 1) (fun k hk => mask_bit (v - 1) b k hk)]
end Vf

set_option Elab.async false
set_option linter.all false
set_option maxRecDepth 100000
set_option maxHeartbeats 4000000
namespace Vf
open PySem PySem.Spec PyProof.Rows L2 TL
def NetOk (n : Nat) (as : List Arc) : Prop := 1 ≤ n ∧ n ≤ 7 ∧ as.length ≤ 49 ∧ (∀ a ∈ as, a.1 < a.2.1 ∧ a.2.1 < n) ∧ as.Pairwise (fun a b => a.1 < b.1 ∨ a.1 = b.1 ∧ a.2.1 < b.2.1)
def NetV (H : Hp) (v : V) (n : Nat) (as : List Arc) : Prop := ∃ a pa vs, v = .ref a ∧ H a = some (.tup [nV n, .ref pa]) ∧ H pa = some (.tup vs) ∧ LV (ArcV H) vs as
theorem NetV.mono {H H' : Hp} {v : V} {n : Nat} {as : List Arc} (h : NetV H v n as) (k : ∀ a xs, H a = some (.tup xs) → H' a = some (.tup xs)) : NetV H' v n as := by
  obtain ⟨a, pa, vs, e, h1, h2, h3⟩ := h
  exact ⟨a, pa, vs, e, k _ _ h1, k _ _ h2, h3.mono fun _ _ z => z.mono k⟩
section
variable {P : Program} {w : World} {K : PySem.W.Frag} {mg : Str → Option Value} {base : Heap}
def spNet : Sp := fun vs H Q _ => ∃ (d l : Addr), vs = [.ref d] ∧ DI d l H ∧ ∀ H' v n as, Kp d H H' → DI d l H' → NetV H' v n as → NetOk n as → Q v H'
theorem ok_net (T : Txt K mg) : FnOk P w K mg base CX0 2 T.a_law_net T.d_law_net ["_law_d"] spNet := by
  have G_law_draw : FnOk P w K mg base CX0 1 T.a_law_draw T.d_law_draw ["_law_d", "_law_many"] spDraw := ok_draw T
  refine T.D_law_net.F.ok sc_law_net (fun vs H Q E h => ?_) (fun cdv A outer s H vs Q E hr h => ?_)
  · obtain ⟨d, l, rfl, _⟩ := h
    rfl
  · obtain ⟨d, l, rfl, hD, q⟩ := h
    refine ⟨_, (pss_cons (ps_set (i := 1) sc_law_net.nd rfl (.inl rfl) (pe_op op_add pe_int (pe_call G_law_draw (hr.mono (by decide)) (by rfl) T.D_law_draw.G T.D_law_draw.F.kp T.D_law_draw.B .nil pass0 (pa_cons (pv 0) (pa_cons pe_int pa_nil)))))
      (pss_cons (ps_set (i := 2) sc_law_net.nd rfl (.inl rfl) (pe_lst pa_nil))
      (pss_cons (ps_for PassesOwn.never rfl (pi_range1 (by rfl) T.n_range (pa_cons (pv 1) pa_nil)) (pg_name (i := 3) sc_law_net.nd rfl (.inl rfl)) (pss_one (ps_for PassesOwn.never rfl (pi_range2 (by rfl) T.n_range (pa_cons (pe_op op_add (pv 3) pe_int) (pa_cons (pv 1) pa_nil))) (pg_name (i := 4) sc_law_net.nd rfl (.inl rfl)) (pss_one (ps_if (pt_cmpR op_gt (pe_call G_law_draw (hr.mono (by decide)) (by rfl) T.D_law_draw.G T.D_law_draw.F.kp T.D_law_draw.B .nil pass0 (pa_cons (pv 0) (pa_cons pe_int pa_nil))) pe_int (nomark _)) (pss_one (ps_expr (pe_bm PySem.F.plainAttrs_list PySem.F.slot_list_append PySem.F.type_list_append mt_append (pv 2) (pa_cons (pe_tup (pa_cons (pv 3) (pa_cons (pv 4) (pa_cons (pe_call G_law_draw (hr.mono (by decide)) (by rfl) T.D_law_draw.G T.D_law_draw.F.kp T.D_law_draw.B .nil pass0 (pa_cons (pv 0) (pa_cons pe_int pa_nil))) pa_nil)))) pa_nil)))) pss_nil)))))
      (pss_one (ps_ret (pe_tup (pa_cons (pv 1) (pa_cons (pe_callTy call_tuple_of (by rfl) T.n_tuple (by decide +kernel) (pa_cons (pv 2) pa_nil)) pa_nil)))))))), ?_⟩
    refine ⟨_, rfl, d, l, 7, rfl, hD, by decide, fun H1 r k1 D1 _ r2 => ?_⟩
    have ⟨r0, r7⟩ := r2 (by decide)
    obtain ⟨m, rfl⟩ : ∃ m : Nat, r = (m : Int) := ⟨r.toNat, by omega⟩
    refine ⟨_, _, rfl, rfl, ?_⟩
    have n7 : 1 + m ≤ 7 := by omega
    refine ⟨by show 0 ≤ sizeLine; decide, fun A nA => ?_⟩
    have dA := D1.nd nA
    have D2 := D1.new (o := .lst []) nA
    have kA := k1.new (o := .lst []) nA
    have nA0 : H A = none := by
      cases e : H A with
      | none => rfl
      | some o => rw [k1 _ _ dA.1 e] at nA; cases nA
    refine ⟨_, rfl, 1 + (m : Int), rfl, by omega, by omega, ?_⟩
    have en : ((1 : Int) + (m : Int)).toNat = 1 + m := by omega
    rw [en]
    refine for_it walk_range (fun i σ' H' => ∃ (vs : List V) (as : List Arc) (x3 x4 : Option V), σ' = [some (.ref d), some (nV (1 + m)), some (.ref A), x3, x4] ∧ Kp d H H' ∧ DI d l H' ∧ H' A = some (.lst vs) ∧ LV (ArcV H') vs as ∧ as.length ≤ 7 * i ∧ (∀ a ∈ as, a.1 < i ∧ a.1 < a.2.1 ∧ a.2.1 < 1 + m) ∧ as.Pairwise (fun a b => a.1 < b.1 ∨ a.1 = b.1 ∧ a.2.1 < b.2.1)) ⟨[], [], none, none, rfl, kA, D2, upd_same, LV.nil, Nat.le_refl _, (fun _ h => nomatch h), List.Pairwise.nil⟩ (fun _ _ _ _ _ => trivial) ?_ ?_
    · rintro i x σ' H2 H3 hi ⟨vs, as, x3, x4, rfl, k2, D2, eA, lv, ln, hb, pw⟩ ⟨rfl, hx⟩
      have hx : x = .int (i : Int) := by rw [hx]; show V.int (0 + (i : Int)) = _; rw [Int.zero_add]
      subst hx
      refine ⟨_, rfl, _, _, rfl, rfl, _, rfl, _, _, rfl, ⟨by omega, by omega, by omega, by omega⟩, ?_⟩
      have em : (((1 + m : Nat) : Int) - ((i : Int) + 1)).toNat = m - i := by omega
      rw [em]
      refine for_it walk_range (fun j σ' H' => ∃ (vs : List V) (as : List Arc) (x4 : Option V), σ' = [some (.ref d), some (nV (1 + m)), some (.ref A), some (.int (i : Int)), x4] ∧ Kp d H H' ∧ DI d l H' ∧ H' A = some (.lst vs) ∧ LV (ArcV H') vs as ∧ as.length ≤ 7 * i + j ∧ (∀ a ∈ as, (a.1 < i ∨ a.1 = i ∧ a.2.1 < i + 1 + j) ∧ a.1 < a.2.1 ∧ a.2.1 < 1 + m) ∧ as.Pairwise (fun a b => a.1 < b.1 ∨ a.1 = b.1 ∧ a.2.1 < b.2.1)) ⟨vs, as, x4, rfl, k2, D2, eA, lv, ln, fun a h => ⟨.inl (hb a h).1, (hb a h).2⟩, pw⟩ (fun _ _ _ _ _ => trivial) ?_ ?_
      · rintro j x σ' H4 H5 hj ⟨vs, as, x4, rfl, k3, D3, eA, lv, ln, hb, pw⟩ ⟨rfl, hx⟩
        have hx : x = .int ((i + 1 + j : Nat) : Int) := by
          rw [hx]
          show V.int ((i : Int) + 1 + (j : Int)) = _
          rw [show (i : Int) + 1 + (j : Int) = ((i + 1 + j : Nat) : Int) by omega]
        subst hx
        refine ⟨_, rfl, d, l, 4, rfl, D3, by decide, fun H6 r4 k4 D4 _ q4 => ?_⟩
        have ⟨q0, _⟩ := q4 (by decide)
        have eA4 := k4 _ _ dA.1 eA
        have lv4 := lv.mono fun x r z => ArcV.mono z (kpTup D3 k4)
        refine ⟨_, _, rfl, rfl, _, rfl, ite2 (fun _ => ?_) (fun _ => ?_)⟩
        · refine ⟨.ref A, rfl, .inl ⟨rfl, _, .inl (.inl eA4)⟩, _, rfl, _, rfl, ?_⟩
          refine ⟨_, rfl, d, l, 6, rfl, D4, by decide, fun H7 r5 k5 D5 _ q5 => ?_⟩
          have ⟨q50, _⟩ := q5 (by decide)
          obtain ⟨c, rfl⟩ : ∃ c : Nat, r5 = (c : Int) := ⟨r5.toNat, by omega⟩
          refine ⟨by show 3 ≤ sizeLine; decide, fun B nB => ?_⟩
          have eA5 := k5 _ _ dA.1 eA4
          have lv5 := lv4.mono fun x r z => ArcV.mono z (kpTup D4 k5)
          have k6 := ((k3.trans k4).trans k5).new (o := .tup [nV i, nV (i + 1 + j), nV c]) nB
          have D6 := D5.new (o := .tup [nV i, nV (i + 1 + j), nV c]) nB
          have nAB : A ≠ B := ne_of_none eA5 nB
          have eA6 : upd H7 B (.tup [nV i, nV (i + 1 + j), nV c]) A = some (.lst vs) := by rw [upd_ne nAB]; exact eA5
          have lv6 : LV (ArcV (upd H7 B (.tup [nV i, nV (i + 1 + j), nV c]))) vs as := lv5.mono fun x r z => ArcV.mono z fun a xs e => by rw [upd_ne (ne_of_none e nB)]; exact e
          have eB : upd H7 B (.tup [nV i, nV (i + 1 + j), nV c]) B = some (.tup [nV i, nV (i + 1 + j), nV c]) := upd_same
          refine ⟨A, _, _, rfl, rfl, eA6, szN (by rw [lv5.1]; omega), ?_⟩
          refine ⟨vs ++ [.ref B], as ++ [(i, i + 1 + j, c)], _, rfl, k6.mut nA0, D6.at dA.1 dA.2, upd_same, ?_, by rw [List.length_append]; show as.length + 1 ≤ _; omega, ?_, ?_⟩
          · refine (lv6.snoc (x := .ref B) (r := (i, i + 1 + j, c)) ⟨B, rfl, eB⟩).mono fun x r z => ArcV.mono z fun a xs e => ?_
            have n : a ≠ A := fun z => by rw [z, eA6] at e; cases e
            rw [upd_ne n]; exact e
          · intro a ha
            rcases List.mem_append.mp ha with h | h
            · have ⟨h1, h2, h3⟩ := hb a h
              exact ⟨by omega, h2, h3⟩
            · rw [List.mem_singleton.mp h]
              exact ⟨.inr ⟨rfl, by show i + 1 + j < _; omega⟩, by show i < i + 1 + j; omega, by show i + 1 + j < 1 + m; omega⟩
          · rw [List.pairwise_append]
            refine ⟨pw, List.pairwise_singleton _ _, fun a ha b hb2 => ?_⟩
            rw [List.mem_singleton.mp hb2]
            exact (hb a ha).1
        · refine ⟨vs, as, _, rfl, k3.trans k4, D4, eA4, lv4, by omega, fun a ha => ?_, pw⟩
          have ⟨h1, h2, h3⟩ := hb a ha
          exact ⟨by omega, h2, h3⟩
      · rintro σ' H4 ⟨vs, as, x4, rfl, k3, D3, eA, lv, ln, hb, pw⟩
        refine ⟨vs, as, _, _, rfl, k3, D3, eA, lv, by omega, fun a ha => ?_, pw⟩
        have ⟨h1, h2, h3⟩ := hb a ha
        exact ⟨by omega, h2, h3⟩
    · rintro σ' H2 ⟨vs, as, x3, x4, rfl, k2, D2, eA, lv, ln, hb, pw⟩
      refine ⟨_, rfl, _, rfl, A, vs, rfl, .inl ⟨SqL.of eA, fun B nB => ?_⟩⟩
      refine ⟨by show 2 ≤ sizeLine; decide, fun R nR => ?_⟩
      have e1 : upd H2 B (.tup vs) B = some (.tup vs) := upd_same
      refine q _ (.ref R) (1 + m) as ((k2.new nB).new nR) ((D2.new nB).new nR) ⟨R, B, vs, rfl, upd_same, by rw [upd_ne (ne_of_none e1 nR)]; exact e1, ?_⟩ ⟨by omega, n7, by omega, fun a ha => (hb a ha).2, pw⟩
      refine lv.mono fun x r z => ArcV.mono z fun a xs e => ?_
      have e2 : upd H2 B (.tup vs) a = some (.tup xs) := by rw [upd_ne (ne_of_none e nB)]; exact e
      rw [upd_ne (ne_of_none e2 nR)]; exact e2
end
end Vf

set_option Elab.async false
set_option linter.all false
set_option maxRecDepth 100000
set_option maxHeartbeats 4000000
namespace Vf
open PySem PySem.Spec PyProof.Rows L2 TL LamX
def PairV (H : Hp) (x : V) (r : Nat × Nat) : Prop := ∃ b, x = .ref b ∧ H b = some (.tup [nV r.1, nV r.2])
theorem PairV.mono {H H' : Hp} {x : V} {r : Nat × Nat} (h : PairV H x r) (k : ∀ a xs, H a = some (.tup xs) → H' a = some (.tup xs)) : PairV H' x r := by
  obtain ⟨b, e, f⟩ := h
  exact ⟨b, e, k _ _ f⟩
def adj (as : List Arc) (i : Nat) : List (Nat × Nat) := as.filterMap fun a => if a.1 = i then some a.2 else none
theorem adj_take {as : List Arc} {i : Nat} {a : Arc} (e : as[i]? = some a) (k : Nat) : adj (as.take (i + 1)) k = adj (as.take i) k ++ if a.1 = k then [a.2] else [] := by
  unfold adj
  rw [show as.take (i + 1) = as.take i ++ [a] by rw [List.take_succ, e]; rfl, List.filterMap_append]
  congr 1
  by_cases h : a.1 = k
  · rw [if_pos h, List.filterMap_cons_some (b := a.2) (by rw [if_pos h])]; rfl
  · rw [if_neg h, List.filterMap_cons_none (by rw [if_neg h])]; rfl
theorem adj_mem {as : List Arc} {k : Nat} {p : Nat × Nat} : p ∈ adj as k ↔ (k, p) ∈ as := by
  unfold adj
  rw [List.mem_filterMap]
  constructor
  · rintro ⟨a, ha, e⟩
    by_cases h : a.1 = k
    · rw [if_pos h] at e
      have e := Option.some.inj e
      rw [← h, ← e]; exact ha
    · rw [if_neg h] at e; cases e
  · intro h
    exact ⟨(k, p), h, if_pos rfl⟩
theorem adj_len (as : List Arc) (k : Nat) : (adj as k).length ≤ as.length := List.length_filterMap_le _ _
def LeadV (H : Hp) (L : Addr) (n : Nat) (as : List Arc) : Prop := ∃ ls, H L = some (.lst ls) ∧ ls.length = n ∧ ∀ i, i < n → ∃ b vs, ls[i]? = some (.ref b) ∧ H b = some (.lst vs) ∧ LV (PairV H) vs (adj as i)
def LdI (H : Hp) (L : Addr) (n : Nat) (as : List Arc) (H' : Hp) : Prop := Same H H' ∧ ∃ ls : List Addr, H' L = some (.lst (ls.map V.ref)) ∧ ls.length = n ∧ ls.Nodup ∧ L ∉ ls ∧ H L = none ∧ ∀ i b, ls[i]? = some b → H b = none ∧ ∃ vs, H' b = some (.lst vs) ∧ LV (PairV H') vs (adj as i)
theorem LdI.lead {H H' : Hp} {L : Addr} {n : Nat} {as : List Arc} (h : LdI H L n as H') : LeadV H' L n as := by
  obtain ⟨_, ls, e1, e2, _, _, _, e3⟩ := h
  refine ⟨_, e1, by rw [List.length_map]; exact e2, fun i hi => ?_⟩
  have g : ls[i]? = some ls[i] := List.getElem?_eq_getElem (by omega)
  obtain ⟨_, vs, h1, h2⟩ := e3 i _ g
  exact ⟨ls[i], vs, by rw [List.getElem?_map, g]; rfl, h1, h2⟩
theorem nd_inj {α : Type} {ls : List α} (h : ls.Nodup) {i j : Nat} {b : α} (hi : ls[i]? = some b) (hj : ls[j]? = some b) : i = j := by
  obtain ⟨i1, i2⟩ := List.getElem?_eq_some_iff.mp hi
  obtain ⟨j1, j2⟩ := List.getElem?_eq_some_iff.mp hj
  rcases Nat.lt_trichotomy i j with l | l | l
  · exact absurd (i2.trans j2.symm) (List.pairwise_iff_getElem.mp h i j i1 j1 l)
  · exact l
  · exact absurd (j2.trans i2.symm) (List.pairwise_iff_getElem.mp h j i j1 i1 l)
def BdV (H : Hp) (D : Addr) (N : Nat) (f : Nat → Option Nat) : Prop := ∃ kvs : List (Key × V), H D = some (.dK kvs) ∧ kvs.length ≤ N ∧ ∀ j : Nat, valV kvs (Sum.inl (j : Int)) = (f j).map nV
theorem BdV.keep {H H' : Hp} {D : Addr} {N : Nat} {f : Nat → Option Nat} (h : BdV H D N f) (k : ∀ o, H D = some o → H' D = some o) : BdV H' D N f := by
  obtain ⟨kvs, e, r⟩ := h
  exact ⟨kvs, k _ e, r⟩
theorem BdV.keep' {H : Hp} {D : Addr} {N M : Nat} {f : Nat → Option Nat} (h : BdV H D N f) (l : N ≤ M) : BdV H D M f := by
  obtain ⟨kvs, e, r, v⟩ := h
  exact ⟨kvs, e, Nat.le_trans r l, v⟩
theorem BdV.get {H : Hp} {D : Addr} {N : Nat} {f : Nat → Option Nat} (h : BdV H D N f) (j : Nat) : DGet H D (nV j) ((f j).map nV) := by
  obtain ⟨kvs, e, _, v⟩ := h
  rw [← v j]
  exact DGet.k (k := Sum.inl (j : Int)) e
theorem BdV.put {H : Hp} {D : Addr} {N : Nat} {f : Nat → Option Nat} (h : BdV H D N f) (hN : N < 100000) (j x : Nat) : ∃ H', DPut H D (nV j) (nV x) H' ∧ BdV H' D (N + 1) (fset f j x) ∧ ∃ o, H' = upd H D o := by
  obtain ⟨kvs, e, l, v⟩ := h
  refine ⟨_, DPut.k (k := Sum.inl (j : Int)) e (szN (by omega)), ⟨_, upd_same, Nat.le_trans (length_putK _ _ _) (by omega), fun i => ?_⟩, _, rfl⟩
  rw [valV_put]
  by_cases c : i = j
  · subst c
    rw [if_pos rfl, fset_same]; rfl
  · rw [if_neg (fun (z : (Sum.inl ((i : Nat) : Int) : Key) = Sum.inl ((j : Nat) : Int)) => c (Int.ofNat.inj (Sum.inl.inj z))), fset_ne c]
    exact v i
/-- what _bounds_and_tails asks of the leads, and what it tells -/
def ttBt (tl : V → Hp → VK → Prop) (v0 : V) (H : Hp) (Q : VK) : Prop := ∃ (a : Addr) (n : Nat) (as : List Arc), v0 = .ref a ∧ H a = some (.lst ((List.range n).map nV)) ∧ NetOk n as ∧
  (∀ (i : Nat) (H' : Hp) (Q' : VK), i < n → Same H H' → (∀ b vs, H' b = some (.lst vs) → H b ≠ none → LV (PairV H') vs (adj as i) → Q' (.ref b) H') → tl (nV i) H' Q') ∧
  ∀ (H' : Hp) (B D1 D2 : Addr) (f g : Nat → Option Nat) (N : Nat), Same H H' → H' B = some (.tup [.ref D1, .ref D2]) → BdV H' D1 N f → BdV H' D2 N g → Bd (· ∈ as) f g → Q (.ref B) H'
section
variable {P : Program} {w : World} {K : PySem.W.Frag} {mg : Str → Option Value} {base : Heap}
def spLeading : Sp := fun vs H Q _ => ∃ (v : V) (n : Nat) (as : List Arc), vs = [v] ∧ NetV H v n as ∧ NetOk n as ∧ ∀ H' L, Same H H' → LeadV H' L n as → Q (.ref L) H'
theorem ok_leading (T : Txt K mg) : FnOk P w K mg base CX0 1 T.a_leading T.d_leading ["net"] spLeading := by
  refine T.D_leading.F.ok sc_leading (fun vs H Q E h => ?_) (fun cdv A outer s H vs Q E hr h => ?_)
  · obtain ⟨v, n, as, rfl, _⟩ := h
    rfl
  · obtain ⟨v, n, as, rfl, ⟨na, pa, us, rfl, e1, e2, lv⟩, ok, q⟩ := h
    have hn := ok.1
    have n7 := ok.2.1
    have lA := ok.2.2.1
    refine ⟨_, (pss_cons (ps_asg (pv 0) (pg_tup (by rfl) (pgs_cons (pg_name (i := 1) sc_leading.nd rfl (.inl rfl)) (pgs_cons (pg_name (i := 2) sc_leading.nd rfl (.inl rfl)) pgs_nil))))
      (pss_cons (ps_setLc (i := 3) (own := [("_", 7)]) (g := gName 7) (tt := tYes) rfl sc_leading.nd rfl rfl (sw_true rfl rfl rfl (by decide +kernel)) (pi_range1 (by rfl) T.n_range (pa_cons (pv 1) pa_nil)) (blkOk_by (own := [("_", 7)]) (N := ["net", "many", "arcs", "leading", "tail", "head", "cost", "_"]) (sc := (defScope s_leading)) (by decide +kernel)) (fun _ _ _ _ _ => (pg_name (i := 7) sc_leading.nd rfl (.inl rfl))) (fun _ _ _ _ _ => pts_nil) (fun _ _ _ _ _ => (pe_lst pa_nil)))
      (pss_cons (ps_for PassesOwn.never rfl (pi_tup (pv 2)) (pg_tup (by rfl) (pgs_cons (pg_name (i := 4) sc_leading.nd rfl (.inl rfl)) (pgs_cons (pg_name (i := 5) sc_leading.nd rfl (.inl rfl)) (pgs_cons (pg_name (i := 6) sc_leading.nd rfl (.inl rfl)) pgs_nil)))) (pss_one (ps_expr (pe_bm PySem.F.plainAttrs_list PySem.F.slot_list_append PySem.F.type_list_append mt_append (pe_ix ix_list (pv 3) (pv 4) (fun _ _ => rfl)) (pa_cons (pe_tup (pa_cons (pv 5) (pa_cons (pv 6) pa_nil))) pa_nil)))))
      (pss_one (ps_ret (pv 3)))))), ?_⟩
    refine ⟨_, rfl, na, _, rfl, SqT.of e1, rfl, _, _, rfl, _, _, rfl, rfl, ?_⟩
    refine ⟨_, rfl, (n : Int), rfl, by omega, by omega, fun D nD => ?_⟩
    rw [Int.toNat_natCast]
    refine lc_range (lo := 0) (n := n) (fun i H' => LdI H D i [] H') ⟨same_upd (Same.refl H) nD, [], upd_same, rfl, List.nodup_nil, by simp, nD, fun i b h => by simp at h⟩ (fun i H1 hi p => ⟨rfl, ?_⟩) (fun H1 p => ?_)
    · obtain ⟨k, ls, eD, ll, nd, nL, _, hb⟩ := p
      refine ⟨by show 0 ≤ sizeLine; decide, fun b nb => ?_⟩
      have nbH : H b = none := by
        cases e : H b with
        | none => rfl
        | some o => rw [k _ _ e] at nb; cases nb
      have nDb : D ≠ b := ne_of_none eD nb
      have eD2 : upd H1 b (.lst []) D = some (.lst (ls.map V.ref)) := by rw [upd_ne nDb]; exact eD
      have nbl : b ∉ ls := fun z => by
        obtain ⟨j, hj, e⟩ := List.mem_iff_getElem.mp z
        obtain ⟨_, vs, h1, _⟩ := hb j b (by rw [List.getElem?_eq_getElem hj, e])
        rw [nb] at h1; cases h1
      refine ⟨_, eD2, by rw [List.length_map]; exact szN (by omega), same_mut (same_upd k nb) nD, ls ++ [b], ?_, by rw [List.length_append, ll]; rfl, ?_, ?_, nD, ?_⟩
      · rw [upd_same, List.map_append]; rfl
      · exact List.nodup_append.mpr ⟨nd, by simp, fun x hx y hy => by rw [List.mem_singleton.mp hy]; exact fun z => nbl (z ▸ hx)⟩
      · intro z
        rcases List.mem_append.mp z with z | z
        · exact nL z
        · exact nDb (List.mem_singleton.mp z)
      · intro i2 b2 h2
        by_cases c : i2 < ls.length
        · rw [List.getElem?_append_left c] at h2
          obtain ⟨g1, vs, g2, g3⟩ := hb i2 b2 h2
          have n1 : b2 ≠ D := fun z => nL (z ▸ List.mem_of_getElem? h2)
          have n2 : b2 ≠ b := fun z => nbl (z ▸ List.mem_of_getElem? h2)
          refine ⟨g1, vs, by rw [upd_ne n1, upd_ne n2]; exact g2, ?_⟩
          have : vs = [] := List.eq_nil_of_length_eq_zero (by rw [g3.1]; rfl)
          rw [this]; exact LV.nil
        · rw [List.getElem?_append_right (by omega)] at h2
          have e0 : i2 - ls.length = 0 := by
            have := (List.getElem?_eq_some_iff.mp h2).1
            simp at this
            exact this
          rw [e0] at h2
          have h2 : b = b2 := Option.some.inj h2
          subst h2
          exact ⟨nbH, [], by rw [upd_ne nDb.symm, upd_same], LV.nil⟩
    · refine ⟨_, rfl, pa, rfl, ⟨us, SqT.of (p.1 _ _ e2)⟩, ?_⟩
      refine for_it (walk_tup (K := K) (a := pa) (xs := us)) (fun i σ' H' => LdI H D n (as.take i) H' ∧ ∃ (x4 x5 x6 : Option V), σ' = [some (.ref na), some (nV n), some (.ref pa), some (.ref D), x4, x5, x6, none]) ⟨p, none, none, none, rfl⟩ ?_ ?_ ?_
      · rintro i σ' H' _ ⟨pI, _⟩
        exact SqT.of (pI.1 _ _ e2)
      · rintro i x σ' H2 H3 hi ⟨⟨k, ls, eD, ll, nd, nL, nDH, hb⟩, x4, x5, x6, rfl⟩ ⟨rfl, hx⟩
        obtain ⟨r, hr2, c, rfl, ec⟩ := lv.at hx
        have hm := ok.2.2.2.1 r (List.mem_of_getElem? hr2)
        refine ⟨c, _, rfl, SqT.of (k _ _ ec), rfl, _, _, rfl, _, _, rfl, _, _, rfl, rfl, ?_⟩
        have ht : r.1 < ls.length := by omega
        have gt : ls[r.1]? = some ls[r.1] := List.getElem?_eq_getElem ht
        obtain ⟨bt, ebt⟩ : ∃ b, b = ls[r.1] := ⟨_, rfl⟩
        rw [← ebt] at gt
        obtain ⟨nbt, vs, g2, g3⟩ := hb _ _ gt
        refine ⟨_, rfl, _, rfl, D, _, _, _, rfl, rfl, SqL.of eD, atI_nat (v := V.ref bt) (by rw [List.getElem?_map, gt]; rfl), .inl ⟨rfl, _, .inl (.inl g2)⟩, ?_⟩
        refine ⟨_, rfl, _, rfl, by show 2 ≤ sizeLine; decide, fun p np => ?_⟩
        have k5 := same_upd (o := .tup [nV r.2.1, nV r.2.2]) (Same.refl H3) np
        have ep : upd H3 p (.tup [nV r.2.1, nV r.2.2]) p = some (.tup [nV r.2.1, nV r.2.2]) := upd_same
        generalize upd H3 p (.tup [nV r.2.1, nV r.2.2]) = H5 at k5 ep
        have le1 : vs.length ≤ as.length := by rw [g3.1]; exact Nat.le_trans (adj_len _ _) (by rw [List.length_take]; omega)
        refine ⟨bt, _, _, rfl, rfl, k5 _ _ g2, szN (by omega), ?_⟩
        have tupk : ∀ a xs, H5 a = some (.tup xs) → upd H5 bt (.lst (vs ++ [V.ref p])) a = some (.tup xs) := fun a xs e => by
          rw [upd_ne (fun z => by rw [z, k5 _ _ g2] at e; cases e)]; exact e
        refine ⟨⟨same_mut (k.trans k5) nbt, ls, by rw [upd_ne (fun (z : D = bt) => nL (by rw [z]; exact List.mem_of_getElem? gt))]; exact k5 _ _ eD, ll, nd, nL, nDH, fun i2 b2 h2 => ?_⟩, _, _, _, rfl⟩
        obtain ⟨m1, vs2, m2, m3⟩ := hb i2 b2 h2
        refine ⟨m1, ?_⟩
        rw [adj_take hr2]
        by_cases c2 : b2 = bt
        · subst c2
          have : i2 = r.1 := nd_inj nd h2 gt
          subst this
          rw [g2] at m2
          cases m2
          refine ⟨_, upd_same, ?_⟩
          rw [if_pos rfl]
          refine LV.snoc (m3.mono fun x r z => z.mono fun a xs e => tupk _ _ (k5 _ _ e)) ⟨p, rfl, tupk _ _ ep⟩
        · refine ⟨vs2, by rw [upd_ne c2]; exact k5 _ _ m2, ?_⟩
          have : ¬ r.1 = i2 := fun z => c2 (by rw [← z, gt] at h2; exact (Option.some.inj h2).symm)
          rw [if_neg this, List.append_nil]
          exact m3.mono fun x r z => z.mono fun a xs e => tupk _ _ (k5 _ _ e)
      · rintro σ' H2 ⟨pI, x4, x5, x6, rfl⟩
        rw [lv.1, List.take_length] at pI
        exact ⟨_, rfl, q _ _ pI.1 pI.lead⟩
end
end Vf

set_option Elab.async false
set_option linter.all false
set_option maxRecDepth 100000
set_option maxHeartbeats 4000000
namespace Vf
open PySem PySem.Spec PyProof.Rows L2 TL LamX
theorem hu1 {k : Nat} {A : Around} (r : Room k A) : A.units + 1 < cLine := by have := r.units; omega
theorem cut_last (xs : List V) : cutV xs none (some (-1)) = xs.take (xs.length - 1) := by
  unfold cutV
  have e1 : HT.sIx xs.length 0 none = 0 := rfl
  have e2 : HT.sIx xs.length xs.length (some (-1)) = xs.length - 1 := by
    unfold HT.sIx
    simp
    omega
  rw [e1, e2, List.drop_zero, Nat.sub_zero]
section
variable {P : Program} {w : World} {K : PySem.W.Frag} {mg : Str → Option Value} {base : Heap}
theorem gives_bt (T : Txt K mg) (k j : Nat) (q : Str) (cdv : Value) : GivesS P w K mg base k j ["places", "leads", "bounds", "tails", "tail", "head", "cost", "total"] "_bounds_and_tails" (defScope s_bounds_and_tails) T.a_bounds_and_tails cdv (defBody s_bounds_and_tails) q ttBt := by
  intro A outer s H f c' v0 Q tl hr Lv hc htt
  have hrZ : Room (k + 1) (A.deeper (envOfC "_bounds_and_tails" (defScope s_bounds_and_tails) s.heap.objs.size T.a_bounds_and_tails cdv)) := hr.mono (by omega)
  obtain ⟨a, n, as, rfl, ea, ok, hl, q⟩ := htt
  have hn := ok.1
  have n7 := ok.2.1
  have lA := ok.2.2.1
  refine ⟨_, (pss_cons (ps_set (i := 2) sc_bounds_and_tails.nd rfl (.inl rfl) (pe_disp (pps_cons (pe_ix ix_list (pv 0) pe_int (fun _ _ => rfl)) pe_int pps_nil) rfl rfl (by simp) (by decide)))
      (pss_cons (ps_set (i := 3) sc_bounds_and_tails.nd rfl (.inl rfl) pe_dnewK)
      (pss_cons (ps_for PassesOwn.never rfl (pi_list (pe_slice sl_list (pv 0) po_none (po_some (pe_un un_neg pe_int)))) (pg_name (i := 4) sc_bounds_and_tails.nd rfl (.inl rfl)) (pss_one (ps_if (pt_cmp (pc_din (hu1 hr) (pv 4) (pv 2))) (pss_one (ps_for PassesOwn.never rfl (pi_list (pe_actS (i := 1) (c' := c') Lv hrZ rfl (Or.inl rfl) (pa_cons (pv 4) pa_nil))) (pg_tup (by rfl) (pgs_cons (pg_name (i := 5) sc_bounds_and_tails.nd rfl (.inl rfl)) (pgs_cons (pg_name (i := 6) sc_bounds_and_tails.nd rfl (.inl rfl)) pgs_nil))) (pss_cons (ps_set (i := 7) sc_bounds_and_tails.nd rfl (.inl rfl) (pe_op op_add (pe_dget (hu1 hr) (pv 2) (pv 4) (fun _ _ => rfl)) (pv 6)))
      (pss_one (ps_if (PW.pt (pw_or (pt_cmp (pc_dnotin (hu1 hr) (pv 5) (pv 2))) (pw_or1 (pt_cmpR op_lt (pv 7) (pe_dget (hu1 hr) (pv 2) (pv 5) (fun _ _ => rfl)) (nomark _))))) (pss_cons (ps_dput (hu1 hr) (pv 2) (pv 5) (pv 7) rfl)
      (pss_one (ps_dput (hu1 hr) (pv 3) (pv 5) (pv 4) rfl))) pss_nil))))) pss_nil)))
      (pss_one (ps_ret (pe_tup (pa_cons (pv 2) (pa_cons (pv 3) pa_nil)))))))), ?_⟩
  refine fun D1 nD1 => ?_
  have k1 := same_upd (o := .dK []) (Same.refl H) nD1
  refine ⟨_, rfl, a, _, _, _, rfl, rfl, SqL.of (k1 _ _ ea), atI_nat (j := 0) (by rw [List.getElem?_map, List.getElem?_range (by omega)]; rfl), ?_⟩
  refine ⟨upd_same, [(Sum.inl ((0 : Nat) : Int), nV 0)], rfl, (show 1 ≤ 15 by decide), ?_⟩
  have b1 : BdV (upd (upd H D1 (.dK [])) D1 (.dK (mergeK [] [(Sum.inl ((0 : Nat) : Int), nV 0)]))) D1 1 (fset (fun _ => none) 0 0) := ⟨_, upd_same, Nat.le_refl 1, fun j => by
    show valV (putK [] (Sum.inl ((0 : Nat) : Int)) (nV 0)) _ = _
    rw [valV_put]
    by_cases c : j = 0
    · subst c; rw [if_pos rfl, fset_same]; rfl
    · rw [if_neg (fun (z : (Sum.inl ((j : Nat) : Int) : Key) = Sum.inl ((0 : Nat) : Int)) => c (Int.ofNat.inj (Sum.inl.inj z))), fset_ne c]; rfl⟩
  have k2 := same_mut (o := .dK (mergeK [] [(Sum.inl ((0 : Nat) : Int), nV 0)])) k1 nD1
  generalize upd (upd H D1 (.dK [])) D1 (.dK (mergeK [] [(Sum.inl ((0 : Nat) : Int), nV 0)])) = H2 at b1 k2
  refine fun D2 nD2 => ?_
  have nD2H : H D2 = none := by
    cases e : H D2 with
    | none => rfl
    | some o => rw [k2 _ _ e] at nD2; cases nD2
  have nDD : D1 ≠ D2 := by
    obtain ⟨kvs, h1, _⟩ := b1
    exact ne_of_none h1 nD2
  have k3 := same_upd (o := .dK []) k2 nD2
  have b2 : BdV (upd H2 D2 (.dK [])) D1 1 (fset (fun _ => none) 0 0) := b1.keep fun o e => by rw [upd_ne nDD]; exact e
  have t2 : BdV (upd H2 D2 (.dK [])) D2 0 (fun _ => none) := ⟨[], upd_same, Nat.le_refl 0, fun _ => rfl⟩
  generalize upd H2 D2 (.dK []) = H3 at k3 b2 t2
  refine ⟨_, rfl, 1, rfl, _, rfl, a, _, rfl, SqL.of (k3 _ _ ea), fun C nC => ?_⟩
  have nCH : H C = none := by
    cases e : H C with
    | none => rfl
    | some o => rw [k3 _ _ e] at nC; cases nC
  have k4 := same_upd (o := .lst (cutV ((List.range n).map nV) none (some (-1)))) k3 nC
  have eC : upd H3 C (.lst (cutV ((List.range n).map nV) none (some (-1)))) C = some (.lst ((List.range (n - 1)).map nV)) := by
    rw [upd_same, cut_last, List.length_map, List.length_range, ← List.map_take, List.take_range, show min (n - 1) n = n - 1 by omega]
  have nD1C : D1 ≠ C := by
    obtain ⟨kvs, h1, _⟩ := b2
    exact ne_of_none h1 nC
  have nD2C : D2 ≠ C := by
    obtain ⟨kvs, h1, _⟩ := t2
    exact ne_of_none h1 nC
  have b4 := b2.keep (H' := upd H3 C (.lst (cutV ((List.range n).map nV) none (some (-1))))) fun o e => by rw [upd_ne nD1C]; exact e
  have t4 := t2.keep (H' := upd H3 C (.lst (cutV ((List.range n).map nV) none (some (-1))))) fun o e => by rw [upd_ne nD2C]; exact e
  generalize upd H3 C (.lst (cutV ((List.range n).map nV) none (some (-1)))) = H4 at k4 eC b4 t4
  have len1 : ((List.range (n - 1)).map nV).length = n - 1 := by rw [List.length_map, List.length_range]
  refine ⟨C, rfl, ⟨_, SqL.of eC⟩, ?_⟩
  refine for_it (walk_list (K := K) (a := C) (xs := (List.range (n - 1)).map nV)) (fun i σ' H' => ∃ (f1 g1 : Nat → Option Nat) (x4 x5 x6 x7 : Option V), σ' = [some (.ref a), some (.ref f), some (.ref D1), some (.ref D2), x4, x5, x6, x7] ∧ Same H H' ∧ H' C = some (.lst ((List.range (n - 1)).map nV)) ∧ BdV H' D1 (1 + 1000 * i) f1 ∧ BdV H' D2 (1000 * i) g1 ∧ Bd (fun r => r ∈ as ∧ r.1 < i) f1 g1) ⟨_, _, none, none, none, none, rfl, k4, eC, b4, t4, Bd.start.congr fun r => ⟨fun z => by omega, fun z => z.elim⟩⟩ ?_ ?_ ?_
  · rintro i σ' H' _ ⟨_, _, _, _, _, _, _, _, e, _⟩
    exact SqL.of e
  · rintro i x σ' H5 H6 hi ⟨f1, g1, x4, x5, x6, x7, rfl, k5, eC5, b5, t5, B⟩ ⟨rfl, hx⟩
    rw [len1] at hi
    rw [List.getElem?_map, List.getElem?_range (by omega)] at hx
    have hx : nV i = x := Option.some.inj hx
    subst hx
    have hn5 : (fun r : Arc => r ∈ as ∧ r.1 < i + 1) = fun r => (r ∈ as ∧ r.1 < i) ∨ (r ∈ as ∧ r.1 = i) := by
      funext r
      apply propext
      constructor
      · rintro ⟨h1, h2⟩
        by_cases c : r.1 < i
        · exact .inl ⟨h1, c⟩
        · exact .inr ⟨h1, by omega⟩
      · rintro (⟨h1, h2⟩ | ⟨h1, h2⟩)
        · exact ⟨h1, by omega⟩
        · exact ⟨h1, by omega⟩
    refine ⟨_, rfl, _, rfl, D1, _, rfl, b5.get i, ?_⟩
    cases hf : f1 i with
    | none =>
      refine ⟨false, rfl, f1, g1, _, _, _, _, rfl, k5, eC5, b5.keep' (by omega), t5.keep' (by omega), ?_⟩
      rw [hn5]
      exact B.none_ fun r hr => by rw [hr.2]; exact hf
    | some x =>
      refine ⟨true, rfl, ?_⟩
      refine ⟨rfl, _, rfl, _, rfl, k5 _ _ hc, hl i _ _ (by omega) k5 fun b vs eb nb lvb => ?_⟩
      have nbC : b ≠ C := fun z => nb (by rw [z]; exact nCH)
      have nb1 : b ≠ D1 := fun z => nb (by rw [z]; exact nD1)
      have nb2 : b ≠ D2 := fun z => nb (by rw [z]; exact nD2H)
      refine ⟨b, rfl, ⟨_, SqL.of eb⟩, ?_⟩
      have lad : (adj as i).length ≤ as.length := adj_len as i
      refine for_it (walk_list (K := K) (a := b) (xs := vs)) (fun m σ' H' => ∃ (f2 g2 : Nat → Option Nat) (x5 x6 x7 : Option V), σ' = [some (.ref a), some (.ref f), some (.ref D1), some (.ref D2), some (nV i), x5, x6, x7] ∧ Same H H' ∧ H' C = some (.lst ((List.range (n - 1)).map nV)) ∧ BdV H' D1 (1 + 1000 * i + m) f2 ∧ BdV H' D2 (1000 * i + m) g2 ∧ f2 i = some x ∧ Bd (fun r => (r ∈ as ∧ r.1 < i) ∨ (r.1 = i ∧ r.2 ∈ (adj as i).take m)) f2 g2 ∧ (∀ (a : Addr) xs, H6 a = some (.tup xs) → H' a = some (.tup xs)) ∧ H' b = some (.lst vs)) ⟨f1, g1, x5, x6, x7, rfl, k5, eC5, b5, t5, hf, B.congr (fun r => by simp), fun _ _ e => e, eb⟩ ?_ ?_ ?_
      · rintro m σ' H' _ ⟨_, _, _, _, _, _, _, _, _, _, _, _, _, e⟩
        exact SqL.of e
      · rintro m y σ' H7 H8 hm ⟨f2, g2, x5, x6, x7, rfl, k7, eC7, b7, t7, ff, B7, kt, eb7⟩ ⟨rfl, hy⟩
        obtain ⟨r, hr2, c, rfl, ec⟩ := lvb.at hy
        have hmem : (i, r) ∈ as := adj_mem.mp (List.mem_of_getElem? hr2)
        have hup := ok.2.2.2.1 _ hmem
        have hup : i < r.1 ∧ r.1 < n := hup
        have hm2 : m < (adj as i).length := (List.getElem?_eq_some_iff.mp hr2).1
        have hpr : ∀ r', ((r' ∈ as ∧ r'.1 < i) ∨ (r'.1 = i ∧ r'.2 ∈ (adj as i).take m)) → r'.1 ≤ i := fun r' h => by
          rcases h with h | h <;> omega
        have hnx : (fun r' : Arc => (r' ∈ as ∧ r'.1 < i) ∨ (r'.1 = i ∧ r'.2 ∈ (adj as i).take (m + 1))) = fun r' => ((r' ∈ as ∧ r'.1 < i) ∨ (r'.1 = i ∧ r'.2 ∈ (adj as i).take m)) ∨ r' = (i, r.1, r.2) := by
          funext r'
          apply propext
          rw [show (adj as i).take (m + 1) = (adj as i).take m ++ [r] by rw [List.take_succ, hr2]; rfl, List.mem_append, List.mem_singleton]
          constructor
          · rintro (h | ⟨h1, h2 | h2⟩)
            · exact .inl (.inl h)
            · exact .inl (.inr ⟨h1, h2⟩)
            · exact .inr (by rw [← h1, ← h2])
          · rintro ((h | ⟨h1, h2⟩) | h)
            · exact .inl h
            · exact .inr ⟨h1, .inl h2⟩
            · exact .inr ⟨by rw [h], .inr (by rw [h])⟩
        refine ⟨c, _, rfl, SqT.of (kt _ _ ec), rfl, _, _, rfl, _, _, rfl, rfl, ?_⟩
        have gi := b7.get i
        rw [ff] at gi
        refine ⟨_, rfl, _, rfl, D1, _, rfl, gi, _, rfl, _, _, rfl, rfl, ?_⟩
        have gh := b7.get r.1
        refine ⟨_, rfl, _, rfl, D1, _, rfl, gh, ?_⟩
        have put : (∀ y, f2 r.1 = some y → x + r.2 < y) → ∃ H9 H10, DPut H8 D1 (nV r.1) (nV (x + r.2)) H9 ∧ DPut H9 D2 (nV r.1) (nV i) H10 ∧ ∃ f3 g3, Same H H10 ∧ H10 C = some (.lst ((List.range (n - 1)).map nV)) ∧ BdV H10 D1 (1 + 1000 * i + (m + 1)) f3 ∧ BdV H10 D2 (1000 * i + (m + 1)) g3 ∧ f3 i = some x ∧ Bd (fun r => (r ∈ as ∧ r.1 < i) ∨ (r.1 = i ∧ r.2 ∈ (adj as i).take (m + 1))) f3 g3 ∧ (∀ (a : Addr) xs, H6 a = some (.tup xs) → H10 a = some (.tup xs)) ∧ H10 b = some (.lst vs) := fun lo => by
          obtain ⟨H9, p1, b9, o9, e9⟩ := b7.put (by omega) r.1 (x + r.2)
          have t9 : BdV H9 D2 (1000 * i + m) g2 := t7.keep fun o e => by rw [e9, upd_ne nDD.symm]; exact e
          obtain ⟨H10, p2, t10, o10, e10⟩ := t9.put (by omega) r.1 i
          have b10 : BdV H10 D1 (1 + 1000 * i + m + 1) (fset f2 r.1 (x + r.2)) := b9.keep fun o e => by rw [e10, upd_ne nDD]; exact e
          refine ⟨H9, H10, p1, p2, _, _, ?_, ?_, b10, t10, by rw [fset_ne (by omega)]; exact ff, ?_, fun a xs e => ?_, ?_⟩
          · rw [e10, e9]; exact same_mut (same_mut k7 nD1) nD2H
          · rw [e10, e9, upd_ne nD2C.symm, upd_ne nD1C.symm]; exact eC7
          · rw [hnx]; exact B7.put hpr hup.1 ff lo
          · have e2 := kt _ _ e
            obtain ⟨_, q1, _⟩ := b7
            obtain ⟨_, q2, _⟩ := t7
            rw [e10, e9, upd_ne (fun z => by rw [z, q2] at e2; cases e2), upd_ne (fun z => by rw [z, q1] at e2; cases e2)]; exact e2
          · rw [e10, e9, upd_ne nb2, upd_ne nb1]; exact eb7
        cases hh : f2 r.1 with
        | none =>
          rw [hh] at gh
          obtain ⟨H9, H10, p1, p2, f3, g3, r1, r2, r3, r4, r5, r6, r7, r8⟩ := put fun y h => by rw [hh] at h; cases h
          refine ⟨true, rfl, ?_⟩
          refine ⟨_, rfl, _, rfl, _, rfl, D1, H9, rfl, p1, ?_⟩
          refine ⟨_, rfl, _, rfl, _, rfl, D2, H10, rfl, p2, ?_⟩
          exact ⟨f3, g3, _, _, _, rfl, r1, r2, r3, r4, r5, r6, r7, r8⟩
        | some y =>
          have gh2 := gh
          rw [hh] at gh2
          rw [hh] at gh
          refine ⟨false, rfl, ?_⟩
          refine ⟨_, rfl, _, rfl, _, rfl, D1, _, rfl, gh2, _, _, rfl, rfl, ?_⟩
          by_cases lt : x + r.2 < y
          · obtain ⟨H9, H10, p1, p2, f3, g3, r1, r2, r3, r4, r5, r6, r7, r8⟩ := put fun y' h => by rw [hh] at h; have := Option.some.inj h; omega
            refine ⟨true, bTr (by omega), ?_⟩
            refine ⟨_, rfl, _, rfl, _, rfl, D1, H9, rfl, p1, ?_⟩
            refine ⟨_, rfl, _, rfl, _, rfl, D2, H10, rfl, p2, ?_⟩
            exact ⟨f3, g3, _, _, _, rfl, r1, r2, r3, r4, r5, r6, r7, r8⟩
          · refine ⟨false, bFa (by omega), ?_⟩
            refine ⟨f2, g2, _, _, _, rfl, k7, eC7, b7.keep' (by omega), t7.keep' (by omega), ff, ?_, kt, eb7⟩
            rw [hnx]; exact B7.skip hpr hup.1 ff hh (by omega)
      · rintro σ' H7 ⟨f2, g2, x5, x6, x7, rfl, k7, eC7, b7, t7, ff, B7, kt, eb7⟩
        have em : vs.length = (adj as i).length := lvb.1
        refine ⟨f2, g2, _, _, _, _, rfl, k7, eC7, b7.keep' (by omega), t7.keep' (by omega), ?_⟩
        rw [hn5]
        refine B7.congr fun r => ?_
        rw [em, List.take_length, adj_mem]
        constructor
        · rintro (h | ⟨h1, h2⟩)
          · exact .inl h
          · exact .inr ⟨h2, by rw [← h2]; exact h1⟩
        · rintro (h | ⟨h1, h2⟩)
          · exact .inl h
          · exact .inr ⟨by rw [← h1] at h2; exact h2, h1⟩
  · rintro σ' H5 ⟨f1, g1, x4, x5, x6, x7, rfl, k5, eC5, b5, t5, B⟩
    rw [len1] at B
    refine ⟨_, rfl, _, rfl, by show 2 ≤ sizeLine; decide, fun R nR => ?_⟩
    have nD1R : D1 ≠ R := by
      obtain ⟨kvs, h1, _⟩ := b5
      exact ne_of_none h1 nR
    have nD2R : D2 ≠ R := by
      obtain ⟨kvs, h1, _⟩ := t5
      exact ne_of_none h1 nR
    exact q (upd H5 R (.tup [.ref D1, .ref D2])) R D1 D2 f1 g1 (1 + 1000 * ((List.range (n - 1)).map nV).length) (same_upd k5 nR) upd_same (b5.keep fun o e => by rw [upd_ne nD1R]; exact e) ((t5.keep' (by omega)).keep fun o e => by rw [upd_ne nD2R]; exact e) (B.congr fun r => ⟨fun h => ⟨h, by have := ok.2.2.2.1 r h; omega⟩, fun h => h.1⟩)
end
end Vf

set_option Elab.async false
set_option linter.all false
set_option maxRecDepth 100000
set_option maxHeartbeats 4000000
namespace Vf
open PySem PySem.Spec PyProof.Rows L2 TL LamX
theorem rgV_nats (n : Nat) : rgV 0 (n : Int) = (List.range n).map nV := by
  unfold rgV
  rw [Int.sub_zero, Int.toNat_natCast]
  refine List.map_congr_left fun i _ => ?_
  show V.int (0 + (i : Int)) = _
  rw [Int.zero_add]; rfl
def oN (o : Option Nat) : V := oV (o.map fun x : Nat => (x : Int))
abbrev lamQ : Str := (envOfC "bounds_of" (defScope s_bounds_of) 0 0 .none).qual ++ "<lambda>"
section
variable {P : Program} {w : World} {K : PySem.W.Frag} {mg : Str → Option Value} {base : Heap}
def spBoundsOf (Pt : Addr) : Sp := fun vs H Q _ => ∃ (v : V) (n : Nat) (as : List Arc), vs = [v] ∧ NetV H v n as ∧ NetOk n as ∧ Tabs [(Pt, lamQ)] H ∧
  ∀ (H' : Hp) (r : Addr) (f g : Nat → Option Nat), ExtN H H' → Tabs [(Pt, lamQ)] H' → H' r = some (.tup ((List.range n).map fun i => oN (f i))) → Bd (· ∈ as) f g → Q (.ref r) H'
theorem ok_bounds_of (T : Txt K mg) {c Pt : Addr} (hcode : T.d_bounds_of.code = .ref c) (TB : TabB base mg c Pt) : FnOk P w K mg base CX0 3 T.a_bounds_of T.d_bounds_of ["net"] (spBoundsOf Pt) := by
  have G_leading : FnOk P w K mg base CX0 1 T.a_leading T.d_leading ["net"] spLeading := ok_leading T
  obtain ⟨oc, od, kV, doc, pm, an, cdv, ct, osl, efd, lk, hcd⟩ := T.D_bounds_of.F.ex
  obtain ⟨oc2, od2, kV2, doc2, pm2, an2, cdv2, ct2, osl2, efd2, lk2, hcd2⟩ := T.D_bounds_and_tails.F.ex
  have hb2 := T.D_bounds_and_tails.B
  rw [efd2] at lk2 hb2
  rw [efd] at lk hcode
  rw [efd]
  have hcdv : cdv = .ref c := hcode
  subst hcdv
  refine fn_of lk hcd sc_bounds_of (fun vs H Q E h => ?_) (fun A outer s H vs Q E hr h => ?_)
  · obtain ⟨v, n, as, rfl, _⟩ := h
    rfl
  · obtain ⟨v, n, as, rfl, nv, ok, hT, q⟩ := h
    suffices h : ∃ t, PSs (cxOf CX0 P w K mg base ["net", "leading", "nodes", "bounds", "node"] "bounds_of" (defScope s_bounds_of) T.a_bounds_of (.ref c) A outer s H E).nox (defBody s_bounds_of) t ∧ t { nx := fun _ H' => Q .non H', rt := Q } (L2.start ["net", "leading", "nodes", "bounds", "node"] [v]) H by
      obtain ⟨t, h1, h2⟩ := h
      exact ⟨t, h1.nox, h2⟩
    refine ⟨_, (pss_cons (ps_set (i := 1) sc_bounds_of.nd rfl (.inr rfl) (pe_call G_leading (hr.mono (by decide)) (by rfl) T.D_leading.G T.D_leading.F.kp T.D_leading.B .nil pass0 (pa_cons (pv 0) pa_nil)))
      (pss_cons (ps_set (i := 2) sc_bounds_of.nd rfl (.inl rfl) (pe_listRg (by rfl) (by rfl) T.n_list (prg_1 (by rfl) T.n_range (pe_ix ix_tup (pv 0) pe_int (fun _ _ => rfl)))))
      (pss_cons (ps_set (i := 3) sc_bounds_of.nd rfl (.inr rfl) (pe_ix ix_tup (pe_lamcallS (k := 0) (j := 0) (ip := 4) (T := [(Pt, lamQ)]) (TT := ttBt) (by rfl) T.D_bounds_and_tails.G T.D_bounds_and_tails.F.kp lk2 hcd2 hb2 sc_bounds_and_tails (gives_bt T 0 0 _ _) (pv 2) TB rfl (List.mem_singleton.mpr rfl) (fun p hp _ => by rw [List.mem_singleton.mp hp]; rfl) (hr.mono (by decide)) (lamP_by (sc := defScope s_bounds_of) (N := ["net", "leading", "nodes", "bounds", "node"]) (p := "node") (by decide +kernel)) rfl (fun _ _ _ _ _ _ => rfl) (fun A outer s H f c' hr2 => pe_ix (r := rIxL K) ix_list (pv 1) (pv 4) (fun _ _ => rfl))) pe_int (fun _ _ => rfl)))
      (pss_one (ps_ret (pe_callTy call_tuple_of (by rfl) T.n_tuple (by decide +kernel) (pa_cons (pe_lc (own := [("node", 4)]) (g := gName 4) (tt := tYes) rfl sc_bounds_of.nd (pi_list (pv 2)) (blkOk_by (own := [("node", 4)]) (N := ["net", "leading", "nodes", "bounds", "node"]) (sc := (defScope s_bounds_of)) (by decide +kernel)) (fun _ _ _ _ _ => (pg_name (i := 4) sc_bounds_of.nd rfl (.inl rfl))) (fun _ _ _ _ _ => pts_nil) (fun _ _ _ _ _ => (pe_dget1 (hu1 hr) (pv 3) (pv 4) ⟨rfl, rfl, rfl, rfl⟩))) pa_nil))))))), ?_⟩
    have hn := ok.1
    have n7 := ok.2.1
    refine ⟨_, rfl, v, n, as, rfl, nv, ok, fun H1 L k1 ld => ?_⟩
    obtain ⟨na, pa, us, rfl, e1, e2, lv⟩ := id nv
    refine ⟨_, rfl, na, _, 0, _, rfl, rfl, SqT.of (k1 _ _ e1), rfl, (n : Int), rfl, ⟨by omega, by omega, by omega, by omega⟩, fun N1 nN => ?_⟩
    have k2 := same_upd (o := .lst (rgV 0 (n : Int))) k1 nN
    have eN : upd H1 N1 (.lst (rgV 0 (n : Int))) N1 = some (.lst ((List.range n).map nV)) := by rw [upd_same, rgV_nats]
    have ld2 : LeadV (upd H1 N1 (.lst (rgV 0 (n : Int)))) L n as := by
      have k := same_upd (o := .lst (rgV 0 (n : Int))) (Same.refl H1) nN
      obtain ⟨ls, g1, g2, g3⟩ := ld
      refine ⟨ls, k _ _ g1, g2, fun i hi => ?_⟩
      obtain ⟨b, vs, m1, m2, m3⟩ := g3 i hi
      exact ⟨b, vs, m1, k _ _ m2, m3.mono fun x r z => z.mono fun a xs e => k _ _ e⟩
    generalize upd H1 N1 (.lst (rgV 0 (n : Int))) = H2 at k2 eN ld2
    obtain ⟨ls, g1, g2, g3⟩ := ld2
    refine ⟨_, rfl, hT.ext k2, fun H3 x3 T3 => ?_⟩
    have nt : ∀ (a : Addr) o, H2 a = some o → (∀ ps, o ≠ .tbl ps) → H3 a = some o := x3
    refine ⟨N1, n, as, rfl, nt _ _ eN (fun _ z => by cases z), ok, fun i H' Q' hi k' hq => ?_, fun H4 B D1 D2 f g M k4 eB b4 t4 bd => ?_⟩
    · obtain ⟨b, vs, m1, m2, m3⟩ := g3 i hi
      have m4 := nt _ _ m2 (fun _ z => by cases z)
      refine ⟨_, rfl, _, rfl, L, _, _, _, rfl, rfl, SqL.of (k' _ _ (nt _ _ g1 (fun _ z => by cases z))), atI_nat m1, ?_⟩
      exact hq b vs (k' _ _ m4) (by rw [m4]; exact fun z => by cases z) (m3.mono fun x r z => z.mono fun a xs e => k' _ _ (nt _ _ e (fun _ z => by cases z)))
    · have eN4 := k4 _ _ (nt _ _ eN (fun _ z => by cases z))
      refine ⟨B, _, 0, _, rfl, rfl, SqT.of eB, rfl, ?_⟩
      refine ⟨_, rfl, N1, rfl, ⟨_, SqL.of eN4⟩, fun C nC => ?_⟩
      have nD1 : D1 ≠ C := by
        obtain ⟨kvs, h1, _⟩ := b4
        exact ne_of_none h1 nC
      have len : ((List.range n).map nV).length = n := by rw [List.length_map, List.length_range]
      refine lc_it (walk_list (K := K) (a := N1) (xs := (List.range n).map nV)) (fun i H' => Same H4 H' ∧ H' C = some (.lst ((List.range i).map fun i => oN (f i)))) ⟨same_upd (Same.refl H4) nC, upd_same⟩ ?_ ?_ ?_
      · rintro i H' _ ⟨k, _⟩
        exact SqL.of (k _ _ eN4)
      · rintro i x H5 H6 hi ⟨k5, eC⟩ ⟨rfl, hx⟩
        rw [len] at hi
        rw [List.getElem?_map, List.getElem?_range hi] at hx
        have hx : nV i = x := Option.some.inj hx
        subst hx
        have b5 := b4.keep (k5 D1)
        obtain ⟨kvs, h1, h2⟩ := id b5
        refine ⟨rfl, _, rfl, D1, rfl, .inl ⟨kvs, .inl h1⟩, _, rfl, _, b5.get i, _, eC, by rw [List.length_map, List.length_range]; exact szN (by omega), same_mut k5 nC, ?_⟩
        have ev : (((f i).map nV).getD .non) = oN (f i) := by cases f i <;> rfl
        rw [upd_same, ev, List.range_succ, List.map_append]; rfl
      · rintro H5 ⟨k5, eC⟩
        rw [len] at eC
        refine ⟨C, _, rfl, .inl ⟨SqL.of eC, fun r nr => ?_⟩⟩
        have k6 := same_upd (o := .tup ((List.range n).map fun i => oN (f i))) (k4.trans k5) nr
        exact q _ r f g ((ExtN.of k2).trans (x3.trans (ExtN.of k6))) (T3.ext k6) upd_same bd
end
end Vf

set_option Elab.async false
set_option linter.all false
set_option maxRecDepth 100000
set_option maxHeartbeats 4000000
namespace Vf
open PySem PySem.Spec PyProof.Rows L2 TL LamX
/-- a dict of pairs of numbers -/
def CsV (H : Hp) (D : Addr) (N : Nat) (g : Nat → Nat → Option Nat) : Prop := ∃ kvs : List (List Key × V), H D = some (.dT kvs) ∧ kvs.length ≤ N ∧ ∀ u v : Nat, valV kvs [Sum.inl (u : Int), Sum.inl (v : Int)] = (g u v).map nV
theorem CsV.keep {H H' : Hp} {D : Addr} {N : Nat} {g : Nat → Nat → Option Nat} (h : CsV H D N g) (k : ∀ o, H D = some o → H' D = some o) : CsV H' D N g := by
  obtain ⟨kvs, e, r⟩ := h
  exact ⟨kvs, k _ e, r⟩
theorem CsV.get {H : Hp} {D b : Addr} {N : Nat} {g : Nat → Nat → Option Nat} (h : CsV H D N g) {u v : Nat} (eb : H b = some (.tup [nV u, nV v])) : DGet H D (.ref b) ((g u v).map nV) := by
  obtain ⟨kvs, e, _, q⟩ := h
  rw [← q u v]
  exact DGet.t (k := [Sum.inl (u : Int), Sum.inl (v : Int)]) e eb
theorem CsV.put {H : Hp} {D b : Addr} {N : Nat} {g : Nat → Nat → Option Nat} (h : CsV H D N g) (hN : N < 100000) {u v : Nat} (x : Nat) (eb : H b = some (.tup [nV u, nV v])) : ∃ H', DPut H D (.ref b) (nV x) H' ∧ CsV H' D (N + 1) (fun i j => if i = u ∧ j = v then some x else g i j) ∧ ∃ o, H' = upd H D o := by
  obtain ⟨kvs, e, l, q⟩ := h
  refine ⟨_, DPut.t (k := [Sum.inl (u : Int), Sum.inl (v : Int)]) e eb (szN (by omega)), ⟨_, upd_same, Nat.le_trans (length_putK _ _ _) (by omega), fun i j => ?_⟩, _, rfl⟩
  rw [valV_put]
  by_cases c : i = u ∧ j = v
  · show _ = ((if i = u ∧ j = v then some x else g i j).map nV)
    rw [if_pos c, c.1, c.2, if_pos rfl]; rfl
  · show _ = ((if i = u ∧ j = v then some x else g i j).map nV)
    rw [if_neg c, if_neg (fun z => c ?_)]
    · exact q i j
    · injection z with z1 z2
      injection z2 with z2 _
      exact ⟨Int.ofNat.inj (Sum.inl.inj z1), Int.ofNat.inj (Sum.inl.inj z2)⟩
theorem bit_eq (m k : Nat) : Builtin.bitAnd ((m : Int) / 2 ^ k) 1 = ((m / 2 ^ k % 2 : Nat) : Int) := by
  rw [PyProof.Rows.bitAnd_m1]; rfl
def totsOf (as : List Arc) (v : Nat) : List Nat := if v = 0 then [0] else (List.range (2 ^ (v - 1))).filterMap fun m => tot as (nodesOf (bitOf m) v)
theorem tots_low {as : List Arc} {v t : Nat} (h : t ∈ totsOf as v) : ∃ ns, ns.getD 0 0 = 0 ∧ ns.getD (ns.length - 1) 0 = v ∧ tot as ns = some t := by
  unfold totsOf at h
  by_cases c : v = 0
  · rw [if_pos c] at h
    rw [List.mem_singleton.mp h, c]
    exact ⟨[0], rfl, rfl, rfl⟩
  · rw [if_neg c] at h
    obtain ⟨m, _, e⟩ := List.mem_filterMap.mp h
    exact ⟨_, nodes_0 _ _, nodes_last _ _, e⟩
theorem tots_le {as : List Arc} {f g : Nat → Option Nat} (B : Bd (· ∈ as) f g) {v t : Nat} (h : t ∈ totsOf as v) : ∃ y, f v = some y ∧ y ≤ t := by
  obtain ⟨ns, h1, h2, h3⟩ := tots_low h
  have := totK_low B h1 _ _ h3
  rw [h2] at this
  exact this
theorem tots_has {as : List Arc} {f g : Nat → Option Nat} (B : Bd (· ∈ as) f g) (up : ∀ a ∈ as, a.1 < a.2.1) (pw : as.Pairwise fun a b => a.1 < b.1 ∨ a.1 = b.1 ∧ a.2.1 < b.2.1) {v y : Nat} (e : f v = some y) : y ∈ totsOf as v := by
  unfold totsOf
  by_cases c : v = 0
  · rw [if_pos c]
    rw [c, B.z.1] at e
    exact List.mem_singleton.mpr (Option.some.inj e).symm
  · rw [if_neg c]
    obtain ⟨b, hb⟩ := tot_best B up pw v v (Nat.le_refl _) c y e
    exact List.mem_filterMap.mpr ⟨maskOf (v - 1) b, List.mem_range.mpr (mask_lt _ _), by rw [nodes_mask]; exact hb⟩
theorem tots_len (as : List Arc) {v : Nat} (h : v ≤ 7) : (totsOf as v).length ≤ 64 := by
  unfold totsOf
  by_cases c : v = 0
  · rw [if_pos c]; decide
  · rw [if_neg c]
    refine Nat.le_trans (List.length_filterMap_le _ _) ?_
    rw [List.length_range]
    exact Nat.pow_le_pow_right (by decide) (show v - 1 ≤ 6 by omega)
section
variable {P : Program} {w : World} {K : PySem.W.Frag} {mg : Str → Option Value} {base : Heap}
def spTotals : Sp := fun vs H Q _ => ∃ (v : V) (n m : Nat) (as : List Arc), vs = [v, nV m] ∧ NetV H v n as ∧ NetOk n as ∧ m < n ∧ ∀ H' L, Same H H' → H L = none → H' L = some (.lst ((totsOf as m).map nV)) → Q (.ref L) H'
theorem ok_totals (T : Txt K mg) : FnOk P w K mg base CX0 1 T.a_law_totals T.d_law_totals ["_law_net_here", "_law_last"] spTotals := by
  refine T.D_law_totals.F.ok sc_law_totals (fun vs H Q E h => ?_) (fun cdv A outer s H vs Q E hr h => ?_)
  · obtain ⟨v, n, m, as, rfl, _⟩ := h
    rfl
  · obtain ⟨v, n, m, as, rfl, ⟨na, pa, us, rfl, e1, e2, lv⟩, ok, hmn, q⟩ := h
    have hn := ok.1
    have n7 := ok.2.1
    have lA := ok.2.2.1
    refine ⟨_, (pss_cons (ps_set (i := 2) sc_law_totals.nd rfl (.inl rfl) pe_dnewT)
      (pss_cons (ps_for PassesOwn.never rfl (pi_tup (pe_ix ix_tup (pv 0) pe_int (fun _ _ => rfl))) (pg_tup (by rfl) (pgs_cons (pg_name (i := 3) sc_law_totals.nd rfl (.inl rfl)) (pgs_cons (pg_name (i := 4) sc_law_totals.nd rfl (.inl rfl)) (pgs_cons (pg_name (i := 5) sc_law_totals.nd rfl (.inl rfl)) pgs_nil)))) (pss_one (ps_dput (hu1 hr) (pv 2) (pe_tup (pa_cons (pv 3) (pa_cons (pv 4) pa_nil))) (pv 5) rfl)))
      (pss_cons (ps_if (pt_cmpR op_eq (pv 1) pe_int (nomark _)) (pss_one (ps_ret (pe_lst (pa_cons pe_int pa_nil)))) pss_nil)
      (pss_cons (ps_set (i := 6) sc_law_totals.nd rfl (.inl rfl) (pe_lst pa_nil))
      (pss_cons (ps_for PassesOwn.never rfl (pi_range1 (by rfl) T.n_range (pa_cons (pe_op op_shl pe_int (pe_op op_sub (pv 1) pe_int)) pa_nil)) (pg_name (i := 7) sc_law_totals.nd rfl (.inr rfl)) (pss_cons (ps_set (i := 8) sc_law_totals.nd rfl (.inl rfl) (pe_op op_cat (pe_op op_cat (pe_lst (pa_cons pe_int pa_nil)) (pe_lc (own := [("_law_k", 10)]) (g := gName 10) rfl sc_law_totals.nd (pi_range2 (by rfl) T.n_range (pa_cons pe_int (pa_cons (pv 1) pa_nil))) (blkOk_by (own := [("_law_k", 10)]) (N := ["_law_net_here", "_law_last", "_law_costs", "_law_tail", "_law_head", "_law_cost", "_law_found", "_law_mask", "_law_nodes", "_law_total", "_law_k"]) (sc := (defScope s_law_totals)) (by decide +kernel)) (fun _ _ _ _ _ => (pg_name (i := 10) sc_law_totals.nd rfl (.inl rfl))) (fun _ _ _ _ _ => (pts_one (pt_cmpR op_eq (pe_op op_and (pe_op op_shr (pv 7) (pe_op op_sub (pv 10) pe_int)) pe_int) pe_int (nomark _)))) (fun _ _ _ _ _ => (pv 10)))) (pe_lst (pa_cons (pv 1) pa_nil))))
      (pss_cons (ps_set (i := 9) sc_law_totals.nd rfl (.inl rfl) pe_int)
      (pss_cons (ps_for PassesOwn.never rfl (pi_range1 (by rfl) T.n_range (pa_cons (pe_op op_sub (pe_callB call_len_seq (by rfl) T.n_len PySem.boot_len (pa_cons (pv 8) pa_nil)) pe_int) pa_nil)) (pg_name (i := 10) sc_law_totals.nd rfl (.inl rfl)) (pss_one (ps_if (PW.pt (pw_and (pt_cmpR op_notN (pv 9) pe_non (nomark _)) (pw_and1 (pt_cmp (pc_din (hu1 hr) (pe_tup (pa_cons (pe_ix ix_list (pv 8) (pv 10) (fun _ _ => rfl)) (pa_cons (pe_ix ix_list (pv 8) (pe_op op_add (pv 10) pe_int) (fun _ _ => rfl)) pa_nil))) (pv 2)))))) (pss_one (ps_set (i := 9) sc_law_totals.nd rfl (.inl rfl) (pe_op op_add (pv 9) (pe_dget (hu1 hr) (pv 2) (pe_tup (pa_cons (pe_ix ix_list (pv 8) (pv 10) (fun _ _ => rfl)) (pa_cons (pe_ix ix_list (pv 8) (pe_op op_add (pv 10) pe_int) (fun _ _ => rfl)) pa_nil))) (fun _ _ => rfl))))) (pss_one (ps_set (i := 9) sc_law_totals.nd rfl (.inl rfl) pe_non)))))
      (pss_one (ps_if (pt_cmpR op_notN (pv 9) pe_non (nomark _)) (pss_one (ps_expr (pe_bm PySem.F.plainAttrs_list PySem.F.slot_list_append PySem.F.type_list_append mt_append (pv 6) (pa_cons (pv 9) pa_nil)))) pss_nil))))))
      (pss_one (ps_ret (pv 6)))))))), ?_⟩
    refine fun D nD => ?_
    have k1 := same_upd (o := .dT []) (Same.refl H) nD
    have d1 : CsV (upd H D (.dT [])) D 0 (cst ([] : List Arc)) := ⟨[], upd_same, Nat.le_refl 0, fun _ _ => rfl⟩
    generalize upd H D (.dT []) = H1 at k1 d1
    refine ⟨_, rfl, na, _, 1, _, rfl, rfl, SqT.of (k1 _ _ e1), rfl, pa, rfl, ⟨us, SqT.of (k1 _ _ e2)⟩, ?_⟩
    refine for_it (walk_tup (K := K) (a := pa) (xs := us)) (fun i σ' H' => ∃ (x3 x4 x5 : Option V), σ' = [some (.ref na), some (nV m), some (.ref D), x3, x4, x5, none, none, none, none, none] ∧ Same H H' ∧ CsV H' D i (cst (as.take i))) ⟨none, none, none, rfl, k1, d1⟩ ?_ ?_ ?_
    · rintro i σ' H' _ ⟨_, _, _, _, k, _⟩
      exact SqT.of (k _ _ e2)
    · rintro i x σ' H3 H4 hi ⟨x3, x4, x5, rfl, k3, d3⟩ ⟨rfl, hx⟩
      obtain ⟨r, hr2, c, rfl, ec⟩ := lv.at hx
      have hil : i < as.length := (List.getElem?_eq_some_iff.mp hr2).1
      refine ⟨c, _, rfl, SqT.of (k3 _ _ ec), rfl, _, _, rfl, _, _, rfl, _, _, rfl, rfl, ?_⟩
      refine ⟨_, rfl, _, rfl, _, rfl, _, rfl, by show 2 ≤ sizeLine; decide, fun t nt => ?_⟩
      have k4 := same_upd (o := .tup [nV r.1, nV r.2.1]) (Same.refl H4) nt
      have et : upd H4 t (.tup [nV r.1, nV r.2.1]) t = some (.tup [nV r.1, nV r.2.1]) := upd_same
      have d4 := d3.keep (k4 D)
      generalize upd H4 t (.tup [nV r.1, nV r.2.1]) = H5 at k4 et d4
      obtain ⟨H6, p6, d6, o, rfl⟩ := d4.put (by omega) r.2.2 et
      refine ⟨D, _, rfl, p6, _, _, _, rfl, same_mut (k3.trans k4) nD, ?_⟩
      have : cst (as.take (i + 1)) = fun u v => if u = r.1 ∧ v = r.2.1 then some r.2.2 else cst (as.take i) u v := funext fun u => funext fun v => cst_take ok.2.2.2.2 hr2 u v
      rw [this]; exact d6
    · rintro σ' H3 ⟨x3, x4, x5, rfl, k3, d3⟩
      rw [lv.1, List.take_length] at d3
      refine ⟨_, rfl, rfl, ?_⟩
      by_cases c0 : m = 0
      · subst c0
        refine ⟨true, bTr rfl, by show 1 ≤ sizeLine; decide, fun L nL => ?_⟩
        exact q _ L (same_upd k3 nL) ((Same.free k3 nL)) upd_same
      refine ⟨false, bFa (fun z => c0 (by have := V.int.inj z; omega)), ?_⟩
      refine ⟨by show 0 ≤ sizeLine; decide, fun L nL => ?_⟩
      have nLH := (Same.free k3 nL)
      have k4 := same_upd (o := .lst []) k3 nL
      have nDL : D ≠ L := by
        obtain ⟨kvs, h1, _⟩ := d3
        exact ne_of_none h1 nL
      have d4 : CsV (upd H3 L (.lst [])) D as.length (cst as) := d3.keep fun o e => by rw [upd_ne nDL]; exact e
      have eL : upd H3 L (.lst []) L = some (.lst []) := upd_same
      generalize upd H3 L (.lst []) = H4 at k4 d4 eL
      have h64 : 2 ^ (m - 1) ≤ 64 := Nat.pow_le_pow_right (by decide) (show m - 1 ≤ 6 by omega)
      have qe : totsOf as m = (List.range (2 ^ (m - 1))).filterMap fun m' => tot as (nodesOf (bitOf m') m) := by unfold totsOf; rw [if_neg c0]
      rw [qe] at q
      have hE : (1 : Int) * 2 ^ ((m : Int) - 1).toNat = ((2 ^ (m - 1) : Nat) : Int) := by
        rw [Int.one_mul, show ((m : Int) - 1).toNat = m - 1 by omega]; norm_cast
      generalize 2 ^ (m - 1) = M at h64 q hE
      refine ⟨_, rfl, _, _, rfl, rfl, _, _, rfl, rfl, ⟨by omega, by omega, by decide⟩, ((M : Nat) : Int), congrArg (fun i : Int => [V.int i]) hE, by omega, by omega, ?_⟩
      rw [Int.toNat_natCast]
      refine for_it walk_range (fun i σ' H' => ∃ (x7 x8 x9 x10 : Option V), σ' = [some (.ref na), some (nV m), some (.ref D), x3, x4, x5, some (.ref L), x7, x8, x9, x10] ∧ Same H H' ∧ CsV H' D as.length (cst as) ∧ H' L = some (.lst (((List.range i).filterMap fun m' => tot as (nodesOf (bitOf m') m)).map nV))) ⟨none, none, none, none, rfl, k4, d4, eL⟩ (fun _ _ _ _ _ => trivial) ?_ ?_
      · rintro i x σ' H5 H6 hi ⟨x7, x8, x9, x10, rfl, k5, d5, eL5⟩ ⟨rfl, hx⟩
        have hx : x = nV i := by rw [hx]; show V.int (0 + (i : Int)) = _; rw [Int.zero_add]; rfl
        subst hx
        refine ⟨by show 1 ≤ sizeLine; decide, fun l0 n0 => ?_⟩
        have k6 := same_upd (o := .lst [V.int 0]) (Same.refl H6) n0
        have e0 : upd H6 l0 (.lst [V.int 0]) l0 = some (.lst [nV 0]) := upd_same
        generalize upd H6 l0 (.lst [V.int 0]) = H7 at k6 e0
        refine ⟨_, rfl, 1, (m : Int), rfl, ⟨by omega, by omega, by omega, by omega⟩, fun C nC => ?_⟩
        rw [show ((m : Int) - 1).toNat = m - 1 by omega]
        refine lc_range (lo := 1) (n := m - 1) (fun i2 H' => Same H7 H' ∧ H' C = some (.lst ((mids (bitOf i) i2).map nV))) ⟨same_upd (Same.refl H7) nC, upd_same⟩ (fun i2 H8 hi2 p => ⟨rfl, ?_⟩) (fun H8 p => ?_)
        · obtain ⟨k8, eC⟩ := p
          have ex : V.int ((1 : Int) + (i2 : Int)) = nV (i2 + 1) := by show _ = V.int ((i2 + 1 : Nat) : Int); congr 1; omega
          rw [ex]
          have eb : decide (V.int (Builtin.bitAnd ((i : Int) / 2 ^ (((i2 + 1 : Nat) : Int) - 1).toNat) 1) = V.int 1) = bitOf i i2 := by
            rw [show (((i2 + 1 : Nat) : Int) - 1).toNat = i2 by omega, bit_eq]
            unfold bitOf
            by_cases c : i / 2 ^ i2 % 2 = 1
            · rw [decide_eq_true c]; exact decide_eq_true (by rw [c]; rfl)
            · rw [decide_eq_false c]; exact decide_eq_false fun z => c (Int.ofNat.inj (V.int.inj z))
          refine ⟨_, rfl, _, rfl, _, _, rfl, rfl, _, _, rfl, rfl, by omega, _, _, rfl, rfl, rfl, bitOf i i2, congrArg V.bl eb, ?_⟩
          rw [mids_succ]
          cases hb : bitOf i i2 with
          | true =>
            refine ⟨_, rfl, _, eC, by rw [List.length_map]; exact szN (Nat.lt_of_le_of_lt (mids_len _ _) (by omega)), same_mut k8 nC, ?_⟩
            rw [upd_same, List.map_append]; rfl
          | false =>
            refine ⟨k8, ?_⟩
            show H8 C = some (.lst ((mids (bitOf i) i2 ++ []).map nV))
            rw [List.append_nil]; exact eC
        · obtain ⟨k8, eC⟩ := p
          have lm : (mids (bitOf i) (m - 1)).length ≤ m - 1 := mids_len _ _
          refine ⟨l0, C, _, _, rfl, rfl, k8 _ _ e0, eC, by rw [List.length_map]; show 1 + _ ≤ _; exact Nat.le_of_lt (szN (by omega)), fun p np => ?_⟩
          have k9 := same_upd (o := .lst ([nV 0] ++ (mids (bitOf i) (m - 1)).map nV)) (Same.refl H8) np
          have ep : upd H8 p (.lst ([nV 0] ++ (mids (bitOf i) (m - 1)).map nV)) p = some (.lst ([nV 0] ++ (mids (bitOf i) (m - 1)).map nV)) := upd_same
          generalize upd H8 p (.lst ([nV 0] ++ (mids (bitOf i) (m - 1)).map nV)) = H9 at k9 ep
          refine ⟨_, rfl, by show 1 ≤ sizeLine; decide, fun l2 n2 => ?_⟩
          have k10 := same_upd (o := .lst [nV m]) (Same.refl H9) n2
          have el2 : upd H9 l2 (.lst [nV m]) l2 = some (.lst [nV m]) := upd_same
          generalize upd H9 l2 (.lst [nV m]) = H10 at k10 el2
          refine ⟨p, l2, _, _, rfl, rfl, k10 _ _ ep, el2, by rw [List.length_append, List.length_map]; show 1 + _ + 1 ≤ _; exact Nat.le_of_lt (szN (by omega)), fun N1 nN => ?_⟩
          have eN : upd H10 N1 (.lst ([nV 0] ++ (mids (bitOf i) (m - 1)).map nV ++ [nV m])) N1 = some (.lst ((nodesOf (bitOf i) m).map nV)) := by
            rw [upd_same]; unfold nodesOf; rw [List.map_cons, List.map_append]; rfl
          have kA := k5.trans (k6.trans (k8.trans (k9.trans k10)))
          have k11 := same_upd (o := .lst ([nV 0] ++ (mids (bitOf i) (m - 1)).map nV ++ [nV m])) (Same.refl H10) nN
          have kB := kA.trans k11
          have d11 := d5.keep fun o e => k11 _ _ (k10 _ _ (k9 _ _ (k8 _ _ (k6 _ _ e))))
          have eL11 := k11 _ _ (k10 _ _ (k9 _ _ (k8 _ _ (k6 _ _ eL5))))
          have lns : (nodesOf (bitOf i) m).length = (mids (bitOf i) (m - 1)).length + 2 := nodes_len _ _
          generalize upd H10 N1 (.lst ([nV 0] ++ (mids (bitOf i) (m - 1)).map nV ++ [nV m])) = H11 at k11 kB d11 eL11 eN
          obtain ⟨ns, ens⟩ : ∃ ns, ns = nodesOf (bitOf i) m := ⟨_, rfl⟩
          rw [← ens] at eN lns
          refine ⟨_, rfl, N1, _, rfl, .inl (SqL.of eN), _, _, rfl, rfl, ((ns.length - 1 : Nat) : Int), congrArg (fun i : Int => [V.int i]) (by rw [List.length_map]; omega), by omega, by omega, ?_⟩
          rw [Int.toNat_natCast]
          refine for_it walk_range (fun j σ' H' => ∃ (x10 : Option V), σ' = [some (.ref na), some (nV m), some (.ref D), x3, x4, x5, some (.ref L), some (nV i), some (.ref N1), some (oN (totK as ns j)), x10] ∧ Same H H' ∧ CsV H' D as.length (cst as) ∧ H' L = some (.lst (((List.range i).filterMap fun m' => tot as (nodesOf (bitOf m') m)).map nV)) ∧ H' N1 = some (.lst (ns.map nV))) ⟨_, rfl, kB, d11, eL11, eN⟩ (fun _ _ _ _ _ => trivial) ?_ ?_
          · rintro j y σ' H12 H13 hj ⟨x10, rfl, k12, d12, eL12, eN12⟩ ⟨rfl, hy⟩
            have hy : y = nV j := by rw [hy]; show V.int (0 + (j : Int)) = _; rw [Int.zero_add]; rfl
            subst hy
            have g1 : (ns.map nV)[j]? = some (nV (ns.getD j 0)) := by rw [List.getElem?_map, List.getElem?_eq_getElem (by omega), List.getD_eq_getElem?_getD, List.getElem?_eq_getElem (by omega)]; rfl
            have g2 : (ns.map nV)[j + 1]? = some (nV (ns.getD (j + 1) 0)) := by rw [List.getElem?_map, List.getElem?_eq_getElem (by omega), List.getD_eq_getElem?_getD, List.getElem?_eq_getElem (by omega)]; rfl
            have sc : totK as ns (j + 1) = stepT as (totK as ns j) (ns.getD j 0) (ns.getD (j + 1) 0) := rfl
            refine ⟨_, rfl, rfl, ?_⟩
            cases ht : totK as ns j with
            | none =>
              rw [ht] at sc
              have sc : totK as ns (j + 1) = none := sc
              refine ⟨false, bNT rfl, some (nV j), ?_, k12, d12, eL12, eN12⟩
              rw [sc]; rfl
            | some x =>
              rw [ht] at sc
              refine ⟨true, bNF (fun z => by cases z), ?_⟩
              refine ⟨_, rfl, _, rfl, N1, _, _, _, rfl, rfl, SqL.of eN12, atI_nat g1, _, rfl, _, rfl, _, _, rfl, rfl, N1, _, _, _, rfl, rfl, SqL.of eN12, atI_nat (j := j + 1) g2, by show 2 ≤ sizeLine; decide, fun t nt => ?_⟩
              have k13 := same_upd (o := .tup [nV (ns.getD j 0), nV (ns.getD (j + 1) 0)]) (Same.refl H13) nt
              have et : upd H13 t (.tup [nV (ns.getD j 0), nV (ns.getD (j + 1) 0)]) t = some (.tup [nV (ns.getD j 0), nV (ns.getD (j + 1) 0)]) := upd_same
              generalize upd H13 t (.tup [nV (ns.getD j 0), nV (ns.getD (j + 1) 0)]) = H14 at k13 et
              have d14 := d12.keep (k13 D)
              have gt := d14.get et
              refine ⟨_, rfl, D, _, rfl, gt, ?_⟩
              cases hc : cst as (ns.getD j 0) (ns.getD (j + 1) 0) with
              | none =>
                have sc : totK as ns (j + 1) = none := by rw [sc]; show (cst as (ns.getD j 0) (ns.getD (j + 1) 0)).map (x + ·) = none; rw [hc]; rfl
                refine ⟨false, rfl, some (nV j), ?_, k12.trans k13, d14, k13 _ _ eL12, k13 _ _ eN12⟩
                rw [sc]; rfl
              | some c =>
                have sc : totK as ns (j + 1) = some (x + c) := by rw [sc]; show (cst as (ns.getD j 0) (ns.getD (j + 1) 0)).map (x + ·) = _; rw [hc]; rfl
                refine ⟨true, rfl, ?_⟩
                have eN14 := k13 _ _ eN12
                refine ⟨_, rfl, _, rfl, _, rfl, _, rfl, N1, _, _, _, rfl, rfl, SqL.of eN14, atI_nat g1, _, rfl, _, rfl, _, _, rfl, rfl, N1, _, _, _, rfl, rfl, SqL.of eN14, atI_nat (j := j + 1) g2, by show 2 ≤ sizeLine; decide, fun t2 nt2 => ?_⟩
                have k15 := same_upd (o := .tup [nV (ns.getD j 0), nV (ns.getD (j + 1) 0)]) (Same.refl H14) nt2
                have et2 : upd H14 t2 (.tup [nV (ns.getD j 0), nV (ns.getD (j + 1) 0)]) t2 = some (.tup [nV (ns.getD j 0), nV (ns.getD (j + 1) 0)]) := upd_same
                generalize upd H14 t2 (.tup [nV (ns.getD j 0), nV (ns.getD (j + 1) 0)]) = H15 at k15 et2
                have d15 := d14.keep (k15 D)
                have gt2 := d15.get et2
                rw [hc] at gt2
                refine ⟨D, _, rfl, gt2, _, _, rfl, rfl, some (nV j), ?_, (k12.trans k13).trans k15, d15, k15 _ _ (k13 _ _ eL12), k15 _ _ eN14⟩
                rw [sc]; rfl
          · rintro σ' H12 ⟨x10, rfl, k12, d12, eL12, eN12⟩
            have et : totK as ns (ns.length - 1) = tot as (nodesOf (bitOf i) m) := by rw [← ens]; rfl
            rw [et]
            have rs : (List.range (i + 1)).filterMap (fun m' => tot as (nodesOf (bitOf m') m)) = (List.range i).filterMap (fun m' => tot as (nodesOf (bitOf m') m)) ++ (tot as (nodesOf (bitOf i) m)).toList := by
              rw [List.range_succ, List.filterMap_append]
              congr 1
            refine ⟨_, rfl, rfl, ?_⟩
            cases ht : tot as (nodesOf (bitOf i) m) with
            | none =>
              refine ⟨false, bNT rfl, _, _, _, _, rfl, k12, d12, ?_⟩
              rw [rs, ht]
              show _ = some (HO.lst ((_ ++ []).map nV))
              rw [List.append_nil]; exact eL12
            | some x =>
              refine ⟨true, bNF (fun z => by cases z), ?_⟩
              refine ⟨.ref L, rfl, .inl ⟨rfl, _, .inl (.inl eL12)⟩, _, rfl, L, _, _, rfl, rfl, eL12, ?_, ?_⟩
              · rw [List.length_map]
                exact szN (Nat.lt_of_le_of_lt (List.length_filterMap_le _ _) (by rw [List.length_range]; omega))
              · refine ⟨_, _, _, _, rfl, same_mut k12 nLH, d12.keep fun o e => by rw [upd_ne nDL]; exact e, ?_⟩
                rw [upd_same, rs, ht, List.map_append]; rfl
      · rintro σ' H5 ⟨x7, x8, x9, x10, rfl, k5, d5, eL5⟩
        exact ⟨_, rfl, q _ L k5 nLH eL5⟩
end
end Vf

set_option Elab.async false
set_option linter.all false
set_option maxRecDepth 100000
set_option maxHeartbeats 4000000
namespace Vf
open PySem PySem.Spec PyProof.Rows L2 TL
def pg (ps : List (Option Int)) (i : Nat) : Option Int := ps.getD i none
theorem pg_at {ps : List (Option Int)} {i : Nat} (h : i < ps.length) : (ps.map oV)[i]? = some (oV (pg ps i)) := by
  unfold pg
  rw [List.getElem?_map, List.getElem?_eq_getElem h, List.getD_eq_getElem?_getD, List.getElem?_eq_getElem h]; rfl
theorem pg_last {ps : List (Option Int)} (h : 0 < ps.length) : atI (ps.map oV) (-1) = some (oV (pg ps (ps.length - 1))) := by
  have e := pg_at (ps := ps) (i := ps.length - 1) (by omega)
  have hl : (ps.map oV).length = ps.length := List.length_map _
  generalize oV (pg ps (ps.length - 1)) = v at e
  have e2 : ps.map oV = (ps.map oV).take (ps.length - 1) ++ [v] := by
    have h3 := List.take_append_drop (ps.length - 1) (ps.map oV)
    have h4 : (ps.map oV).drop (ps.length - 1) = [v] := by
      rw [List.drop_eq_getElem_cons (by omega)]
      have h5 := List.getElem?_eq_some_iff.mp e
      rw [h5.2, List.drop_eq_nil_of_le (by omega)]
    rw [h4] at h3
    exact h3.symm
  rw [e2]
  exact atI_last _ _
def arcBad (ps : List (Option Int)) (a : Arc) : Bool := match pg ps a.1 with
  | none => false
  | some x => match pg ps a.2.1 with
    | none => true
    | some y => decide (x + (a.2.2 : Int) < y)
def paperOk (n : Nat) (as : List Arc) (t : Option Int) (ps : List (Option Int)) : Bool :=
  decide (ps.length = n) && decide (pg ps 0 = some 0) && decide (pg ps (n - 1) = t) && as.all fun a => !arcBad ps a
theorem scal_o : ∀ a b : Option Int, scal (oV a) (oV b) = true
  | none, none => rfl
  | none, some _ => rfl
  | some _, none => rfl
  | some _, some _ => rfl
theorem judge_bad {n : Nat} {as : List Arc} {t : Option Int} {ps : List (Option Int)} (h : ¬ (ps.length = n ∧ pg ps 0 = some 0 ∧ pg ps (n - 1) = t)) : paperOk n as t ps = false := by
  unfold paperOk
  by_cases h1 : ps.length = n
  · by_cases h2 : pg ps 0 = some 0
    · have h3 : ¬ pg ps (n - 1) = t := fun h3 => h ⟨h1, h2, h3⟩
      rw [decide_eq_false h3, Bool.and_false]; rfl
    · rw [decide_eq_false h2, Bool.and_false]; rfl
  · rw [decide_eq_false h1]; rfl
theorem judge_good {n : Nat} {as : List Arc} {t : Option Int} {ps : List (Option Int)} (h1 : ps.length = n) (h2 : pg ps 0 = some 0) (h3 : pg ps (n - 1) = t) (h4 : ∀ (j : Nat) (a : Arc), as[j]? = some a → arcBad ps a = false) : paperOk n as t ps = true := by
  unfold paperOk
  rw [decide_eq_true h1, decide_eq_true h2, decide_eq_true h3]
  show (as.all fun a => !arcBad ps a) = true
  rw [List.all_eq_true]
  intro a ha
  obtain ⟨j, hj, e⟩ := List.mem_iff_getElem.mp ha
  rw [h4 j a (by rw [List.getElem?_eq_getElem hj, e])]; rfl
theorem judge_arc {n : Nat} {as : List Arc} {t : Option Int} {ps : List (Option Int)} {j : Nat} {a : Arc} (e : as[j]? = some a) (h : arcBad ps a = true) : paperOk n as t ps = false := by
  unfold paperOk
  have : (as.all fun a => !arcBad ps a) = false := by
    rw [List.all_eq_false]
    exact ⟨a, List.mem_of_getElem? e, by rw [h]; decide⟩
  rw [this, Bool.and_false]
section
variable {P : Program} {w : World} {K : PySem.W.Frag} {mg : Str → Option Value} {base : Heap}
def spJudge (K : PySem.W.Frag) : Sp := fun vs H Q _ => ∃ (v : V) (b : Addr) (n : Nat) (as : List Arc) (t : Option Int) (ps : List (Option Int)), vs = [v, oV t, .ref b] ∧ NetV H v n as ∧ NetOk n as ∧ SqT K H b (ps.map oV) ∧ Q (.bl (paperOk n as t ps)) H
theorem ok_judge (T : Txt K mg) : FnOk P w K mg base CX0 1 T.a_judge_bounds T.d_judge_bounds ["net", "total", "bounds"] (spJudge K) := by
  refine T.D_judge_bounds.F.ok sc_judge_bounds (fun vs H Q E h => ?_) (fun cdv A outer s H vs Q E hr h => ?_)
  · obtain ⟨v, b, n, as, t, ps, rfl, _⟩ := h
    rfl
  · obtain ⟨v, b, n, as, t, ps, rfl, ⟨na, pa, us, rfl, e1, e2, lv⟩, ok, eb, q⟩ := h
    refine ⟨_, (pss_cons (ps_asg (pv 0) (pg_tup (by rfl) (pgs_cons (pg_name (i := 3) sc_judge_bounds.nd rfl (.inl rfl)) (pgs_cons (pg_name (i := 4) sc_judge_bounds.nd rfl (.inl rfl)) pgs_nil))))
      (pss_cons (ps_if (PW.pt (pw_or (pt_cmpR op_ne (pe_callB call_len_seq (by rfl) T.n_len PySem.boot_len (pa_cons (pv 2) pa_nil)) (pv 3) (nomark _)) (pw_or (pt_cmpR op_ne (pe_ix ix_tup (pv 2) pe_int (fun _ _ => rfl)) pe_int (nomark _)) (pw_or1 (pt_cmpR op_ne (pe_ix ix_tup (pv 2) (pe_un un_neg pe_int) (fun _ _ => rfl)) (pv 1) (nomark _)))))) (pss_one (ps_ret pe_bl)) pss_nil)
      (pss_cons (ps_for PassesOwn.never rfl (pi_tup (pv 4)) (pg_tup (by rfl) (pgs_cons (pg_name (i := 5) sc_judge_bounds.nd rfl (.inl rfl)) (pgs_cons (pg_name (i := 6) sc_judge_bounds.nd rfl (.inl rfl)) (pgs_cons (pg_name (i := 7) sc_judge_bounds.nd rfl (.inl rfl)) pgs_nil)))) (pss_one (ps_if (PW.pt (pw_and (pt_cmpR op_notN (pe_ix ix_tup (pv 2) (pv 5) (fun _ _ => rfl)) pe_non (nomark _)) (pw_and1 (PW.pt (pw_or (pt_cmpR op_isN (pe_ix ix_tup (pv 2) (pv 6) (fun _ _ => rfl)) pe_non (nomark _)) (pw_or1 (pt_cmpR op_gt (pe_ix ix_tup (pv 2) (pv 6) (fun _ _ => rfl)) (pe_op op_add (pe_ix ix_tup (pv 2) (pv 5) (fun _ _ => rfl)) (pv 7)) (nomark _)))))))) (pss_one (ps_ret pe_bl)) pss_nil)))
      (pss_one (ps_ret pe_bl))))), ?_⟩
    refine ⟨_, rfl, na, _, rfl, SqT.of e1, rfl, _, _, rfl, _, _, rfl, rfl, ?_⟩
    refine ⟨_, rfl, b, _, rfl, .inr eb, ?_⟩
    have hn := ok.1
    have n7 := ok.2.1
    by_cases h1 : ps.length = n
    case neg =>
      refine ⟨_, rfl, rfl, true, bNF (fun z => h1 ?_), ?_⟩
      · have := V.int.inj z
        rw [List.length_map] at this
        exact Int.ofNat.inj this
      rw [judge_bad fun z => h1 z.1] at q
      exact q
    refine ⟨_, rfl, rfl, false, bNT (by rw [List.length_map, h1]; rfl), ?_⟩
    have g0 := pg_at (ps := ps) (i := 0) (by omega)
    refine ⟨_, rfl, b, _, _, _, rfl, rfl, eb, atI_nat g0, scal_o _ (some 0), ?_⟩
    by_cases h2 : pg ps 0 = some 0
    case neg =>
      refine ⟨true, bNF (fun z => h2 (oV_inj (b := some 0) z)), ?_⟩
      rw [judge_bad fun z => h2 z.2.1] at q
      exact q
    refine ⟨false, bNT (by rw [h2]; rfl), ?_⟩
    refine ⟨_, rfl, 1, rfl, b, _, -1, _, rfl, rfl, eb, pg_last (by omega), _, rfl, scal_o _ _, ?_⟩
    by_cases h3 : pg ps (n - 1) = t
    case neg =>
      refine ⟨true, bNF (fun z => h3 (by rw [h1] at z; exact oV_inj z)), ?_⟩
      rw [judge_bad fun z => h3 z.2.2] at q
      exact q
    refine ⟨false, bNT (by rw [h1, h3]), ?_⟩
    refine ⟨_, rfl, pa, rfl, ⟨us, SqT.of e2⟩, ?_⟩
    refine for_it (walk_tup (K := K) (a := pa) (xs := us)) (fun i σ' H' => H' = H ∧ (∀ (j : Nat) (a : Arc), j < i → as[j]? = some a → arcBad ps a = false) ∧ ∃ (x5 x6 x7 : Option V), σ' = [some (.ref na), some (oV t), some (.ref b), some (nV n), some (.ref pa), x5, x6, x7]) ⟨rfl, fun j a h => absurd h (Nat.not_lt_zero _), none, none, none, rfl⟩ ?_ ?_ ?_
    · rintro i σ' H' _ ⟨rfl, _⟩
      exact SqT.of e2
    · rintro i x σ' H2 H3 hi ⟨rfl, hb, x5, x6, x7, rfl⟩ ⟨rfl, hx⟩
      obtain ⟨r, hr, c, rfl, ec⟩ := lv.at hx
      have hm := ok.2.2.2.1 r (List.mem_of_getElem? hr)
      refine ⟨c, _, rfl, SqT.of ec, rfl, _, _, rfl, _, _, rfl, _, _, rfl, rfl, ?_⟩
      have gt := pg_at (ps := ps) (i := r.1) (by omega)
      have gh := pg_at (ps := ps) (i := r.2.1) (by omega)
      refine ⟨_, rfl, _, rfl, b, _, _, _, rfl, rfl, eb, atI_nat gt, rfl, ?_⟩
      have nxt : arcBad ps r = false → ∀ (j : Nat) (a : Arc), j < i + 1 → as[j]? = some a → arcBad ps a = false := by
        intro h0 j a hj ea
        by_cases hji : j < i
        · exact hb j a hji ea
        · have : j = i := by omega
          subst this
          rw [hr] at ea
          rw [← Option.some.inj ea]; exact h0
      cases h4 : pg ps r.1 with
      | none =>
        exact ⟨false, bNT rfl, rfl, nxt (by unfold arcBad; rw [h4]), _, _, _, rfl⟩
      | some x =>
        rw [h4] at gt
        refine ⟨true, bNF (fun z => by cases z), ?_⟩
        refine ⟨_, rfl, _, rfl, b, _, _, _, rfl, rfl, eb, atI_nat gh, rfl, ?_⟩
        cases h5 : pg ps r.2.1 with
        | none =>
          rw [judge_arc hr (by unfold arcBad; rw [h4, h5])] at q
          exact ⟨true, bTr rfl, q⟩
        | some y =>
          rw [h5] at gh
          refine ⟨false, bFa (fun z => by cases z), ?_⟩
          refine ⟨_, rfl, _, rfl, b, _, _, _, rfl, rfl, eb, atI_nat gh, _, rfl, _, rfl, b, _, _, _, rfl, rfl, eb, atI_nat gt, _, rfl, _, _, rfl, rfl, _, _, rfl, rfl, ?_⟩
          by_cases h6 : x + (r.2.2 : Int) < y
          · rw [judge_arc hr (by unfold arcBad; rw [h4, h5]; exact decide_eq_true h6)] at q
            exact ⟨true, bTr h6, q⟩
          · exact ⟨false, bFa h6, rfl, nxt (by unfold arcBad; rw [h4, h5]; exact decide_eq_false h6), _, _, _, rfl⟩
    · rintro σ' H' ⟨rfl, hb, x5, x6, x7, rfl⟩
      rw [judge_good h1 h2 h3 fun j a e => hb j a (by rw [lv.1]; exact (List.getElem?_eq_some_iff.mp e).1) e] at q
      exact q
end
end Vf

set_option Elab.async false
set_option linter.all false
set_option maxRecDepth 100000
set_option maxHeartbeats 4000000
namespace Vf
open PySem PySem.Spec PyProof.Rows L2 TL
/-- two values are the same data, at most n - 1 tuples deep -/
def Eqv : Nat → Hp → V → V → Prop
  | 0, _, _, _ => False
  | n + 1, H, v, u => ((∃ z, v = .str z ∧ u = .str z) ∨ (∃ i, v = .int i ∧ u = .int i) ∨ (v = .non ∧ u = .non)) ∨
      ∃ (a b : Addr) (xs ys : List V), v = .ref a ∧ u = .ref b ∧ H a = some (.tup xs) ∧ H b = some (.tup ys) ∧ xs.length = ys.length ∧ xs.length ≤ 100000 ∧ ∀ (i : Nat) x y, xs[i]? = some x → ys[i]? = some y → Eqv n H x y
def spExact (n : Nat) : Sp := fun vs H Q _ => ∃ (v u : V), vs = [v, u] ∧ Eqv n H v u ∧ Q (.bl true) H
theorem eq_self {H : Hp} {Q : VK} {x : V} (q : Q (.bl true) H) : Q (.bl (decide (x = x))) H := by
  rw [decide_eq_true rfl]; exact q
section
variable {P : Program} {w : World} {K : PySem.W.Frag} {mg : Str → Option Value} {base : Heap}
theorem ok_exact (T : Txt K mg) : ∀ n : Nat, FnOk P w K mg base CX0 (n + 1) T.a_law_exact T.d_law_exact ["_law_told", "_law_due"] (spExact n)
  | 0 => by
    refine T.D_law_exact.F.ok sc_law_exact (fun vs H Q E h => ?_) (fun cdv A outer s H vs Q E hr h => ?_)
    · obtain ⟨v, u, rfl, _⟩ := h
      rfl
    · obtain ⟨v, u, rfl, hE, q⟩ := h
      exact hE.elim
  | n + 1 => by
    have G_law_exact : FnOk P w K mg base CX0 (n + 1) T.a_law_exact T.d_law_exact ["_law_told", "_law_due"] (spExact n) := ok_exact T n
    refine T.D_law_exact.F.ok sc_law_exact (fun vs H Q E h => ?_) (fun cdv A outer s H vs Q E hr h => ?_)
    · obtain ⟨v, u, rfl, _⟩ := h
      rfl
    · obtain ⟨v, u, rfl, hE, q⟩ := h
      refine ⟨_, (pss_cons (ps_if (pt_val (pe_callB call_isi (by rfl) T.n_isinstance (by decide +kernel) (pa_cons (pv 1) (pa_cons (pe_bltn (v := .ty "tuple") (by rfl) T.n_tuple (by decide +kernel) rfl) pa_nil)))) (pss_cons (ps_if (PW.pt (pw_or (pt_not (pt_val (pe_callB call_isi (by rfl) T.n_isinstance (by decide +kernel) (pa_cons (pv 0) (pa_cons (pe_bltn (v := .ty "tuple") (by rfl) T.n_tuple (by decide +kernel) rfl) pa_nil))))) (pw_or1 (pt_cmpR op_ne (pe_callB call_len (by rfl) T.n_len PySem.boot_len (pa_cons (pv 0) pa_nil)) (pe_callB call_len (by rfl) T.n_len PySem.boot_len (pa_cons (pv 1) pa_nil)) (nomark _))))) (pss_one (ps_ret pe_bl)) pss_nil)
      (pss_cons (ps_for PassesOwn.never rfl (pi_range1 (by rfl) T.n_range (pa_cons (pe_callB call_len (by rfl) T.n_len PySem.boot_len (pa_cons (pv 1) pa_nil)) pa_nil)) (pg_name (i := 2) sc_law_exact.nd rfl (.inl rfl)) (pss_one (ps_if (pt_not (pt_val (pe_call G_law_exact hr (by rfl) T.D_law_exact.G T.D_law_exact.F.kp T.D_law_exact.B .nil pass0 (pa_cons (pe_ix ix_seq (pv 0) (pv 2) (fun _ _ => rfl)) (pa_cons (pe_ix ix_seq (pv 1) (pv 2) (fun _ _ => rfl)) pa_nil))))) (pss_one (ps_ret pe_bl)) pss_nil)))
      (pss_one (ps_ret pe_bl)))) pss_nil)
      (pss_cons (ps_if (pt_cmpR op_isN (pv 1) pe_non (nomark _)) (pss_one (ps_ret (pe_cmpR op_isN (pv 0) pe_non (nomark _)))) pss_nil)
      (pss_cons (ps_if (pt_val (pe_callB call_isi (by rfl) T.n_isinstance (by decide +kernel) (pa_cons (pv 1) (pa_cons (pe_bltn (v := .ty "bool") (by rfl) T.n_bool (by decide +kernel) rfl) pa_nil)))) (pss_one (ps_ret (pe_and (pe_callB call_isi (by rfl) T.n_isinstance (by decide +kernel) (pa_cons (pv 0) (pa_cons (pe_bltn (v := .ty "bool") (by rfl) T.n_bool (by decide +kernel) rfl) pa_nil))) (pe_one (pe_cmpR op_eq (pv 0) (pv 1) (nomark _)))))) pss_nil)
      (pss_cons (ps_if (pt_val (pe_callB call_isi (by rfl) T.n_isinstance (by decide +kernel) (pa_cons (pv 1) (pa_cons (pe_bltn (v := .ty "int") (by rfl) T.n_int (by decide +kernel) rfl) pa_nil)))) (pss_one (ps_ret (pe_and (pe_callB call_isi (by rfl) T.n_isinstance (by decide +kernel) (pa_cons (pv 0) (pa_cons (pe_bltn (v := .ty "int") (by rfl) T.n_int (by decide +kernel) rfl) pa_nil))) (pe_and (pe_not (pe_callB call_isi (by rfl) T.n_isinstance (by decide +kernel) (pa_cons (pv 0) (pa_cons (pe_bltn (v := .ty "bool") (by rfl) T.n_bool (by decide +kernel) rfl) pa_nil)))) (pe_one (pe_cmpR op_eq (pv 0) (pv 1) (nomark _))))))) pss_nil)
      (pss_one (ps_ret (pe_and (pe_callB call_isi (by rfl) T.n_isinstance (by decide +kernel) (pa_cons (pv 0) (pa_cons (pe_bltn (v := .ty "str") (by rfl) T.n_str (by decide +kernel) rfl) pa_nil))) (pe_one (pe_cmpR op_eq (pv 0) (pv 1) (nomark _)))))))))), ?_⟩
      rcases hE with (⟨z, rfl, rfl⟩ | ⟨i, rfl, rfl⟩ | ⟨rfl, rfl⟩) | ⟨a, b, xs, ys, rfl, rfl, ha, hb, el, en, hE⟩
      · refine ⟨_, rfl, _, _, .type "str", .type "tuple", false, rfl, .ty _, .base (.str _), kit_ty (by decide +kernel), _, rfl, ?_⟩
        refine ⟨_, rfl, rfl, false, bl_of (decide_eq_false (fun e => by cases e)), ?_⟩
        refine ⟨_, rfl, _, _, .type "str", .type "bool", false, rfl, .ty _, .base (.str _), kit_ty (by decide +kernel), _, rfl, ?_⟩
        refine ⟨_, rfl, _, _, .type "str", .type "int", false, rfl, .ty _, .base (.str _), kit_ty (by decide +kernel), _, rfl, ?_⟩
        exact ⟨_, rfl, _, _, .type "str", .type "str", true, rfl, .ty _, .base (.str _), kit_ty (by decide +kernel), true, rfl, _, rfl, _, rfl, rfl, eq_self q⟩
      · refine ⟨_, rfl, _, _, .type "int", .type "tuple", false, rfl, .ty _, .base (.int _), kit_ty (by decide +kernel), _, rfl, ?_⟩
        refine ⟨_, rfl, rfl, false, bl_of (decide_eq_false (fun e => by cases e)), ?_⟩
        refine ⟨_, rfl, _, _, .type "int", .type "bool", false, rfl, .ty _, .base (.int _), kit_ty (by decide +kernel), _, rfl, ?_⟩
        refine ⟨_, rfl, _, _, .type "int", .type "int", true, rfl, .ty _, .base (.int _), kit_ty (by decide +kernel), _, rfl, ?_⟩
        exact ⟨_, rfl, _, _, .type "int", .type "int", true, rfl, .ty _, .base (.int _), kit_ty (by decide +kernel), true, rfl, _, rfl, _, _, .type "int", .type "bool", false, rfl, .ty _, .base (.int _), kit_ty (by decide +kernel), false, rfl, true, rfl, _, rfl, _, rfl, rfl, eq_self q⟩
      · refine ⟨_, rfl, _, _, .type "NoneType", .type "tuple", false, rfl, .ty _, .base .non, kit_ty (by decide +kernel), _, rfl, ?_⟩
        exact ⟨_, rfl, rfl, true, bl_of (decide_eq_true rfl), _, rfl, rfl, eq_self q⟩
      · refine ⟨_, rfl, _, _, .type "tuple", .type "tuple", true, rfl, .ty _, .base (.tup hb), kit_ty (by decide +kernel), _, rfl, ?_⟩
        refine ⟨_, rfl, _, _, .type "tuple", .type "tuple", true, rfl, .ty _, .base (.tup ha), kit_ty (by decide +kernel), _, rfl, ?_⟩
        refine ⟨_, rfl, _, _, rfl, .inr ⟨_, SqT.of ha, rfl⟩, _, rfl, _, _, rfl, .inr ⟨_, SqT.of hb, rfl⟩, rfl, false, ?_, ?_⟩
        · rw [el, decide_eq_true rfl]; rfl
        refine ⟨_, rfl, _, _, rfl, .inr ⟨_, SqT.of hb, rfl⟩, _, rfl, by omega, by omega, ?_⟩
        refine for_range (lo := 0) (n := ((ys.length : Nat) : Int).toNat) (fun i σ' H' => H' = H ∧ ∃ x2 : Option V, σ' = [some (.ref a), some (.ref b), x2]) ⟨rfl, none, rfl⟩ ?_ ?_
        · rintro i σ' H' hi ⟨rfl, x2, rfl⟩
          have hi2 : i < ys.length := by omega
          have hi1 : i < xs.length := by omega
          have gx : xs[i]? = some xs[i] := List.getElem?_eq_getElem hi1
          have gy : ys[i]? = some ys[i] := List.getElem?_eq_getElem hi2
          have e0 : ((0 : Int) + (i : Int)) = (i : Int) := Int.zero_add _
          refine ⟨_, rfl, _, rfl, .inr (.inl ⟨a, xs, _, _, rfl, rfl, SqT.of ha, at_of e0 gx, ?_⟩)⟩
          refine ⟨_, rfl, _, rfl, .inr (.inl ⟨b, ys, _, _, rfl, rfl, SqT.of hb, at_of e0 gy, ?_⟩)⟩
          exact ⟨_, _, rfl, hE i _ _ gx gy, true, rfl, rfl, _, rfl⟩
        · rintro σ' H' ⟨rfl, x2, rfl⟩
          exact q
end
end Vf

set_option Elab.async false
set_option linter.all false
set_option maxRecDepth 100000
set_option maxHeartbeats 4000000
namespace Vf
open PySem PySem.Spec PyProof.Rows L2 TL LamX
def DueP (as : List Arc) (v : Nat) (o : Option Nat) : Prop := (o = none ∧ totsOf as v = []) ∨ ∃ y, o = some y ∧ y ∈ totsOf as v ∧ ∀ t ∈ totsOf as v, y ≤ t
theorem due_eq {as : List Arc} {f g : Nat → Option Nat} (B : Bd (· ∈ as) f g) (up : ∀ a ∈ as, a.1 < a.2.1) (pw : as.Pairwise fun a b => a.1 < b.1 ∨ a.1 = b.1 ∧ a.2.1 < b.2.1) {v : Nat} {o : Option Nat} (h : DueP as v o) : f v = o := by
  rcases h with ⟨rfl, h⟩ | ⟨y, rfl, h1, h2⟩
  · cases e : f v with
    | none => rfl
    | some y =>
      have := tots_has B up pw e
      rw [h] at this; cases this
  · obtain ⟨z, e, l⟩ := tots_le B h1
    have := h2 z (tots_has B up pw e)
    rw [e, show z = y by omega]
theorem paper_low {as : List Arc} {ps : List (Option Int)} (h0 : pg ps 0 = some 0) (hb : ∀ a ∈ as, arcBad ps a = false) {ns : List Nat} (hz : ns.getD 0 0 = 0) : ∀ (k t : Nat), totK as ns k = some t → ∃ x : Int, pg ps (ns.getD k 0) = some x ∧ x ≤ t
  | 0, t, h => ⟨0, by rw [hz]; exact h0, by omega⟩
  | k + 1, t, h => by
    obtain ⟨x, c, e, hm, rfl⟩ := stepT_some h
    obtain ⟨y0, e1, l1⟩ := paper_low h0 hb hz k x e
    have := hb _ hm
    unfold arcBad at this
    rw [show ((ns.getD k 0, ns.getD (k + 1) 0, c) : Arc).1 = ns.getD k 0 from rfl, e1] at this
    have this : (match pg ps (ns.getD (k + 1) 0) with | none => true | some y => decide (y0 + (c : Int) < y)) = false := this
    cases e2 : pg ps (ns.getD (k + 1) 0) with
    | none => rw [e2] at this; cases this
    | some y =>
      rw [e2] at this
      have := of_decide_eq_false this
      exact ⟨y, rfl, by omega⟩
theorem paper_claim {n : Nat} {as : List Arc} {t : Option Int} {ps : List (Option Int)} (h : paperOk n as t ps = true) {z : Nat} (hz : z ∈ totsOf as (n - 1)) : ∃ x : Int, t = some x ∧ x ≤ z := by
  unfold paperOk at h
  simp only [Bool.and_eq_true, decide_eq_true_eq, List.all_eq_true, Bool.not_eq_true'] at h
  obtain ⟨⟨⟨_, h2⟩, h3⟩, h4⟩ := h
  obtain ⟨ns, n1, n2, n3⟩ := tots_low hz
  obtain ⟨x, e, l⟩ := paper_low h2 h4 n1 _ _ n3
  rw [n2, h3] at e
  exact ⟨x, e, l⟩
def psOf (n : Nat) (f : Nat → Option Nat) : List (Option Int) := (List.range n).map fun i => (f i).map fun x : Nat => (x : Int)
theorem psOf_at {n : Nat} {f : Nat → Option Nat} {i : Nat} (h : i < n) : pg (psOf n f) i = (f i).map fun x : Nat => (x : Int) := by
  unfold pg psOf
  rw [List.getD_eq_getElem?_getD, List.getElem?_map, List.getElem?_range h]; rfl
theorem psOf_ok {n : Nat} {as : List Arc} {f g : Nat → Option Nat} (B : Bd (· ∈ as) f g) (ok : NetOk n as) : paperOk n as ((f (n - 1)).map fun x : Nat => (x : Int)) (psOf n f) = true := by
  have hn := ok.1
  refine judge_good (by unfold psOf; rw [List.length_map, List.length_range]) (by rw [psOf_at (by omega), B.z.1]; rfl) (psOf_at (by omega)) fun j a e => ?_
  have hm := List.mem_of_getElem? e
  have hu := ok.2.2.2.1 a hm
  unfold arcBad
  rw [psOf_at (by omega), psOf_at (by omega)]
  cases e1 : f a.1 with
  | none => rfl
  | some x =>
    obtain ⟨y, e2, l⟩ := B.le (u := a.1) (v := a.2.1) (c := a.2.2) hm e1
    rw [e2]
    refine decide_eq_false ?_
    show ¬ ((x : Int) + (a.2.2 : Int) < (y : Int))
    omega
theorem tabs_kp {T : List (Addr × Str)} {d l : Addr} {H H' : Hp} (t : Tabs T H) (D : DI d l H) (k : Kp d H H') : Tabs T H' := fun p hp => by
  obtain ⟨_, _, i, b, s, c, _, h2⟩ := D
  obtain ⟨ps, h1, h3, h4⟩ := t p hp
  refine ⟨ps, k _ _ (fun z => by rw [z, h2] at h1; cases h1) h1, h3, fun pos cv hc => ?_⟩
  obtain ⟨c0, e1, e2⟩ := h4 pos cv hc
  exact ⟨c0, e1, k _ _ (fun z => by rw [z, h2] at e2; cases e2) e2⟩
theorem DI.ext {d l : Addr} {H H' : Hp} (h : DI d l H) (e : ExtN H H') : DI d l H' := by
  obtain ⟨n, ⟨ns, h1⟩, i, b, s, c, h0, h2⟩ := h
  exact ⟨n, ⟨ns, e _ _ h1 (fun _ z => by cases z)⟩, i, b, s, c, h0, e _ _ h2 (fun _ z => by cases z)⟩
theorem none_kp' {d : Addr} {H H' : Hp} {b : Addr} (k : Kp d H H') (n : b ≠ d) (h : H' b = none) : H b = none := by
  cases e : H b with
  | none => rfl
  | some o => rw [k _ _ n e] at h; cases h
theorem exL {H H' : Hp} (e : ExtN H H') {a : Addr} {xs : List V} (h : H a = some (.lst xs)) : H' a = some (.lst xs) := e _ _ h (fun _ z => by cases z)
theorem exT {H H' : Hp} (e : ExtN H H') {a : Addr} {xs : List V} (h : H a = some (.tup xs)) : H' a = some (.tup xs) := e _ _ h (fun _ z => by cases z)
theorem oN_at {ds : List (Option Nat)} {i : Nat} (h : i < ds.length) : (ds.map oN)[i]? = some (oN (ds.getD i none)) := by
  rw [List.getElem?_map, List.getElem?_eq_getElem h, List.getD_eq_getElem?_getD, List.getElem?_eq_getElem h]; rfl
theorem eqv_o {H : Hp} (o : Option Nat) : Eqv 1 H (oN o) (oN o) := by
  cases o with
  | none => exact .inl (.inr (.inr ⟨rfl, rfl⟩))
  | some x => exact .inl (.inr (.inl ⟨_, rfl, rfl⟩))
section
variable {P : Program} {w : World} {K : PySem.W.Frag} {mg : Str → Option Value} {base : Heap}
def spLaw (K : PySem.W.Frag) (Pt : Addr) : Sp := fun vs H Q _ => ∃ (a : Addr) (ns : List Int), vs = [.ref a] ∧ SqL K H a (ns.map V.int) ∧ ns.length ≤ 63 ∧ Tabs [(Pt, lamQ)] H ∧ ∀ H', Q (.bl true) H'
theorem ok_law (T : Txt K mg) {c Pt : Addr} (hcode : T.d_bounds_of.code = .ref c) (TB : TabB base mg c Pt) : FnOk P w K mg base CX0 5 T.a_law T.d_law ["_law_script"] (spLaw K Pt) := by
  have G_law_begin : FnOk P w K mg base CX0 1 T.a_law_begin T.d_law_begin ["_law_script"] (spBegin K) := ok_begin T
  have G_law_draw : FnOk P w K mg base CX0 1 T.a_law_draw T.d_law_draw ["_law_d", "_law_many"] spDraw := ok_draw T
  have G_law_net : FnOk P w K mg base CX0 2 T.a_law_net T.d_law_net ["_law_d"] spNet := ok_net T
  have G_law_totals : FnOk P w K mg base CX0 1 T.a_law_totals T.d_law_totals ["_law_net_here", "_law_last"] spTotals := ok_totals T
  have G_law_exact : FnOk P w K mg base CX0 3 T.a_law_exact T.d_law_exact ["_law_told", "_law_due"] (spExact 2) := ok_exact T 2
  have G_judge_bounds : FnOk P w K mg base CX0 1 T.a_judge_bounds T.d_judge_bounds ["net", "total", "bounds"] (spJudge K) := ok_judge T
  have G_bounds_of : FnOk P w K mg base CX0 3 T.a_bounds_of T.d_bounds_of ["net"] (spBoundsOf Pt) := ok_bounds_of T hcode TB
  refine T.D_law.F.ok sc_law (fun vs H Q E h => ?_) (fun cdv A outer s H vs Q E hr h => ?_)
  · obtain ⟨a, ns, rfl, _⟩ := h
    rfl
  · obtain ⟨a, ns, rfl, hS, hl, hT, q⟩ := h
    refine ⟨_, (pss_cons (ps_set (i := 1) sc_law.nd rfl (.inl rfl) (pe_call G_law_begin (hr.mono (by decide)) (by rfl) T.D_law_begin.G T.D_law_begin.F.kp T.D_law_begin.B .nil pass0 (pa_cons (pv 0) pa_nil)))
      (pss_cons (ps_set (i := 2) sc_law.nd rfl (.inl rfl) (pe_call G_law_net (hr.mono (by decide)) (by rfl) T.D_law_net.G T.D_law_net.F.kp T.D_law_net.B .nil pass0 (pa_cons (pv 1) pa_nil)))
      (pss_cons (ps_set (i := 3) sc_law.nd rfl (.inl rfl) (pe_lst pa_nil))
      (pss_cons (ps_for PassesOwn.never rfl (pi_range1 (by rfl) T.n_range (pa_cons (pe_ix ix_tup (pv 2) pe_int (fun _ _ => rfl)) pa_nil)) (pg_name (i := 4) sc_law.nd rfl (.inl rfl)) (pss_cons (ps_set (i := 5) sc_law.nd rfl (.inl rfl) (pe_call G_law_totals (hr.mono (by decide)) (by rfl) T.D_law_totals.G T.D_law_totals.F.kp T.D_law_totals.B .nil pass0 (pa_cons (pv 2) (pa_cons (pv 4) pa_nil))))
      (pss_one (ps_expr (pe_bm PySem.F.plainAttrs_list PySem.F.slot_list_append PySem.F.type_list_append mt_append (pv 3) (pa_cons (pe_ifExp (pt_truth (pv 5) (by intro _; rfl)) (pe_callB (cr_min (by rfl)) (by rfl) T.n_min (by decide +kernel) (pa_cons (pv 5) pa_nil)) pe_non) pa_nil))))))
      (pss_cons (ps_if (pt_not (pt_val (pe_call G_law_exact (hr.mono (by decide)) (by rfl) T.D_law_exact.G T.D_law_exact.F.kp T.D_law_exact.B .nil pass0 (pa_cons (pe_call G_bounds_of (hr.mono (by decide)) (by rfl) T.D_bounds_of.G T.D_bounds_of.F.kp T.D_bounds_of.B .nil pass0 (pa_cons (pv 2) pa_nil)) (pa_cons (pe_callTy call_tuple_of (by rfl) T.n_tuple (by decide +kernel) (pa_cons (pv 3) pa_nil)) pa_nil))))) (pss_one (ps_ret pe_bl)) pss_nil)
      (pss_cons (ps_if (pt_cmpR op_notBl (pe_call G_judge_bounds (hr.mono (by decide)) (by rfl) T.D_judge_bounds.G T.D_judge_bounds.F.kp T.D_judge_bounds.B .nil pass0 (pa_cons (pv 2) (pa_cons (pe_ix ix_list (pv 3) (pe_op op_sub (pe_ix ix_tup (pv 2) pe_int (fun _ _ => rfl)) pe_int) (fun _ _ => rfl)) (pa_cons (pe_call G_bounds_of (hr.mono (by decide)) (by rfl) T.D_bounds_of.G T.D_bounds_of.F.kp T.D_bounds_of.B .nil pass0 (pa_cons (pv 2) pa_nil)) pa_nil)))) pe_bl (nomark _)) (pss_one (ps_ret pe_bl)) pss_nil)
      (pss_cons (ps_set (i := 5) sc_law.nd rfl (.inl rfl) (pe_call G_law_totals (hr.mono (by decide)) (by rfl) T.D_law_totals.G T.D_law_totals.F.kp T.D_law_totals.B .nil pass0 (pa_cons (pv 2) (pa_cons (pe_op op_sub (pe_ix ix_tup (pv 2) pe_int (fun _ _ => rfl)) pe_int) pa_nil))))
      (pss_cons (ps_for PassesOwn.never rfl (pi_range1 (by rfl) T.n_range (pa_cons pe_int pa_nil)) (pg_name (i := 6) sc_law.nd rfl (.inl rfl)) (pss_cons (ps_set (i := 7) sc_law.nd rfl (.inl rfl) (pe_lst pa_nil))
      (pss_cons (ps_for PassesOwn.never rfl (pi_range1 (by rfl) T.n_range (pa_cons (pe_ix ix_tup (pv 2) pe_int (fun _ _ => rfl)) pa_nil)) (pg_name (i := 4) sc_law.nd rfl (.inl rfl)) (pss_cons (ps_set (i := 8) sc_law.nd rfl (.inl rfl) (pe_ix ix_list (pv 3) (pv 4) (fun _ _ => rfl)))
      (Evl.pss_cut (ps_if (PW.pt (pw_and (pt_cmpR op_notN (pv 8) pe_non (nomark _)) (pw_and1 (pt_cmpR op_gt (pv 4) pe_int (nomark _))))) (pss_one (ps_set (i := 8) sc_law.nd rfl (.inl rfl) (pe_op op_sub (pv 8) (pe_call G_law_draw (hr.mono (by decide)) (by rfl) T.D_law_draw.G T.D_law_draw.F.kp T.D_law_draw.B .nil pass0 (pa_cons (pv 1) (pa_cons pe_int pa_nil)))))) pss_nil)
      (Evl.pss_cut (ps_if (pt_cmpR op_eq (pe_call G_law_draw (hr.mono (by decide)) (by rfl) T.D_law_draw.G T.D_law_draw.F.kp T.D_law_draw.B .nil pass0 (pa_cons (pv 1) (pa_cons pe_int pa_nil))) pe_int (nomark _)) (pss_one (ps_set (i := 8) sc_law.nd rfl (.inl rfl) pe_non)) pss_nil)
      (pss_one (ps_expr (pe_bm PySem.F.plainAttrs_list PySem.F.slot_list_append PySem.F.type_list_append mt_append (pv 7) (pa_cons (pv 8) pa_nil))))))))
      (pss_cons (ps_set (i := 9) sc_law.nd rfl (.inl rfl) (pe_ix ix_list (pv 7) (pe_op op_sub (pe_ix ix_tup (pv 2) pe_int (fun _ _ => rfl)) pe_int) (fun _ _ => rfl)))
      (pss_one (ps_if (pt_val (pe_call G_judge_bounds (hr.mono (by decide)) (by rfl) T.D_judge_bounds.G T.D_judge_bounds.F.kp T.D_judge_bounds.B .nil pass0 (pa_cons (pv 2) (pa_cons (pv 9) (pa_cons (pe_callTy call_tuple_of (by rfl) T.n_tuple (by decide +kernel) (pa_cons (pv 7) pa_nil)) pa_nil))))) (pss_cons (ps_if (PW.pt (pw_and (pt_cmpR op_isN (pv 9) pe_non (nomark _)) (pw_and1 (pt_truth (pv 5) (by intro _; rfl))))) (pss_one (ps_ret pe_bl)) pss_nil)
      (pss_one (ps_if (PW.pt (pw_and (pt_cmpR op_notN (pv 9) pe_non (nomark _)) (pw_and (pt_truth (pv 5) (by intro _; rfl)) (pw_and1 (pt_cmpR op_lt (pe_callB (cr_min (by rfl)) (by rfl) T.n_min (by decide +kernel) (pa_cons (pv 5) pa_nil)) (pv 9) (nomark _)))))) (pss_one (ps_ret pe_bl)) pss_nil))) pss_nil))))))
      (pss_one (ps_ret pe_bl)))))))))), ?_⟩
    refine ⟨_, rfl, a, ns, rfl, hS, hl, fun H1 d l s1 D1 => ?_⟩
    refine ⟨_, rfl, d, l, rfl, D1, fun H2 v n as k2 D2 nv ok => ?_⟩
    have T2 := tabs_kp (hT.ext s1) D1 k2
    have hn := ok.1
    have n7 := ok.2.1
    obtain ⟨na, pa, us, rfl, e1, e2, lv⟩ := id nv
    refine ⟨by show 0 ≤ sizeLine; decide, fun L nL => ?_⟩
    have k3 := same_upd (o := .lst []) (Same.refl H2) nL
    have eL : upd H2 L (.lst []) L = some (.lst (([] : List (Option Nat)).map oN)) := upd_same
    generalize upd H2 L (.lst []) = H3 at k3 eL
    refine ⟨_, rfl, na, _, 0, _, rfl, rfl, SqT.of (k3 _ _ e1), rfl, (n : Int), rfl, by omega, by omega, ?_⟩
    rw [Int.toNat_natCast]
    refine for_it walk_range (fun i σ' H' => ∃ (ds : List (Option Nat)) (x4 x5 : Option V), σ' = [some (.ref a), some (.ref d), some (.ref na), some (.ref L), x4, x5, none, none, none, none] ∧ Same H2 H' ∧ H' L = some (.lst (ds.map oN)) ∧ ds.length = i ∧ ∀ v, v < i → DueP as v (ds.getD v none)) ⟨[], none, none, rfl, k3, eL, rfl, fun v h => absurd h (Nat.not_lt_zero _)⟩ (fun _ _ _ _ _ => trivial) ?_ ?_
    · rintro i x σ' H4 H5 hi ⟨ds, x4, x5, rfl, k4, eL4, ld, hd⟩ ⟨rfl, hx⟩
      have hx : x = nV i := by rw [hx]; show V.int (0 + (i : Int)) = _; rw [Int.zero_add]; rfl
      subst hx
      refine ⟨_, rfl, _, rfl, .ref na, n, i, as, rfl, nv.mono fun _ _ e => k4 _ _ e, ok, hi, fun H6 Tt k6 nTt eT => ?_⟩
      refine ⟨.ref L, rfl, .inl ⟨rfl, _, .inl (.inl (k6 _ _ eL4))⟩, ?_⟩
      have put : ∀ o, DueP as i o → ∃ l xs x, V.ref L = .ref l ∧ [oN o] = [x] ∧ H6 l = some (.lst xs) ∧ xs.length < sizeLine ∧ ∃ (ds : List (Option Nat)) (x4 x5 : Option V), [some (V.ref a), some (.ref d), some (.ref na), some (.ref L), some (nV i), some (.ref Tt), none, none, none, none] = [some (.ref a), some (.ref d), some (.ref na), some (.ref L), x4, x5, none, none, none, none] ∧ Same H2 (upd H6 l (.lst (xs ++ [x]))) ∧ upd H6 l (.lst (xs ++ [x])) L = some (.lst (ds.map oN)) ∧ ds.length = i + 1 ∧ ∀ v, v < i + 1 → DueP as v (ds.getD v none) := fun o ho => by
        refine ⟨L, _, _, rfl, rfl, k6 _ _ eL4, by rw [List.length_map]; exact szN (by omega), ds ++ [o], _, _, rfl, same_mut (k4.trans k6) nL, by rw [upd_same, List.map_append]; rfl, by rw [List.length_append, ld]; rfl, fun v hv => ?_⟩
        by_cases c : v < i
        · rw [List.getD_eq_getElem?_getD, List.getElem?_append_left (by omega), ← List.getD_eq_getElem?_getD]
          exact hd v c
        · have : v = i := by omega
          subst this
          rw [List.getD_eq_getElem?_getD, List.getElem?_append_right (by omega), ld, Nat.sub_self]
          exact ho
      refine ⟨_, rfl, ?_⟩
      cases et : totsOf as i with
      | nil =>
        rw [et] at eT
        refine ⟨false, .inl ⟨_, SqL.of eT, rfl⟩, ?_⟩
        exact put none (.inl ⟨rfl, et⟩)
      | cons t0 tr =>
        refine ⟨true, .inl ⟨_, SqL.of eT, by rw [et]; rfl⟩, ?_⟩
        refine ⟨_, rfl, Tt, (totsOf as i).map (fun x : Nat => (x : Int)), rfl, SqL.of (by rw [eT, List.map_map]; rfl), by rw [List.length_map, et]; exact Nat.succ_pos _, fun m hm hM => ?_⟩
        obtain ⟨m, hm2, rfl⟩ := List.mem_map.mp hm
        exact put (some m) (.inr ⟨m, rfl, hm2, fun t ht => by
          have := hM _ (List.mem_map.mpr ⟨t, ht, rfl⟩)
          omega⟩)
    rintro σ' H4 ⟨ds, x4, x5, rfl, k4, eL4, ld, hd⟩
    have T4 := T2.ext k4
    have D4 := D2.keep k4
    have nv4 := nv.mono fun _ _ e => k4 _ _ e
    have nLd := (D2.nd nL).1
    refine ⟨_, rfl, .ref na, n, as, rfl, nv4, ok, T4, fun H5 r f g x5 T5 er bd => ?_⟩
    have fe : ∀ v, v < n → f v = ds.getD v none := fun v hv => due_eq bd (fun a h => (ok.2.2.2.1 a h).1) ok.2.2.2.2 (hd v hv)
    have eL5 := exL x5 eL4
    refine ⟨_, rfl, L, _, rfl, .inl ⟨SqL.of eL5, fun B nB => ?_⟩⟩
    have k6 := same_upd (o := .tup (ds.map oN)) (Same.refl H5) nB
    have eB : upd H5 B (.tup (ds.map oN)) B = some (.tup (ds.map oN)) := upd_same
    generalize upd H5 B (.tup (ds.map oN)) = H6 at k6 eB
    have er6 := k6 _ _ er
    refine ⟨_, _, rfl, .inr ⟨r, B, _, _, rfl, rfl, er6, eB, by rw [List.length_map, List.length_map, List.length_range, ld], by rw [List.length_map, List.length_range]; omega, fun i x y hx hy => ?_⟩, ?_⟩
    · have hi : i < n := by have := (List.getElem?_eq_some_iff.mp hx).1; rw [List.length_map, List.length_range] at this; exact this
      rw [List.getElem?_map, List.getElem?_range hi] at hx
      have hx : oN (f i) = x := Option.some.inj hx
      rw [oN_at (by omega)] at hy
      have hy := Option.some.inj hy
      rw [← hx, ← hy, fe i hi]
      exact eqv_o _
    refine ⟨true, rfl, ?_⟩
    have D6 := (D4.ext x5).keep k6
    have nv6 : NetV H6 (.ref na) n as := nv4.mono fun _ _ e => k6 _ _ (exT x5 e)
    have T6 := T5.ext k6
    have eL6 := k6 _ _ eL5
    obtain ⟨na', pa', us', ena, f1, f2, lv6⟩ := id nv6
    cases ena
    have en : ((n : Nat) : Int) - 1 = ((n - 1 : Nat) : Int) := by omega
    have gL : (ds.map oN)[n - 1]? = some (oV ((f (n - 1)).map fun x : Nat => (x : Int))) := by rw [fe (n - 1) (by omega)]; exact oN_at (by omega)
    refine ⟨_, rfl, _, rfl, _, rfl, na, _, 0, _, rfl, rfl, SqT.of f1, rfl, _, _, rfl, rfl, L, _, _, _, rfl, rfl, SqL.of eL6, by rw [en]; exact atI_nat gL, ?_⟩
    refine ⟨_, rfl, .ref na, n, as, rfl, nv6, ok, T6, fun H7 r2 f' g' x7 T7 er7 bd7 => ?_⟩
    have fe7 : ∀ v, v < n → f' v = f v := fun v hv => by rw [fe v hv]; exact due_eq bd7 (fun a h => (ok.2.2.2.1 a h).1) ok.2.2.2.2 (hd v hv)
    have er7 : H7 r2 = some (.tup ((psOf n f').map oV)) := by rw [er7]; unfold psOf; rw [List.map_map]; rfl
    have nv7 : NetV H7 (.ref na) n as := nv6.mono fun _ _ e => exT x7 e
    refine ⟨_, r2, n, as, _, psOf n f', rfl, nv7, ok, SqT.of er7, ?_⟩
    rw [← fe7 (n - 1) (by omega), psOf_ok bd7 ok]
    refine ⟨true, true, rfl, rfl, false, rfl, ?_⟩
    have D7 := D6.ext x7
    have eL7 := exL x7 eL6
    refine ⟨_, rfl, _, rfl, na, _, 0, _, rfl, rfl, SqT.of (exT x7 f1), rfl, _, _, rfl, rfl, .ref na, n, n - 1, as, ?_, nv7, ok, by omega, fun H8 Tt k8 nTt eT => ?_⟩
    · show [V.ref na, V.int ((n : Int) - 1)] = _
      rw [en]; rfl
    have D8 := D7.keep k8
    have nv8 := nv7.mono fun _ _ e => k8 _ _ e
    have eL8 := k8 _ _ eL7
    have nTd := (D7.nd nTt).1
    refine ⟨6, rfl, by decide, by decide, ?_⟩
    refine for_it walk_range (fun j σ' H' => ∃ (x4 x6 x7 x8 x9 : Option V), σ' = [some (.ref a), some (.ref d), some (.ref na), some (.ref L), x4, some (.ref Tt), x6, x7, x8, x9] ∧ DI d l H' ∧ Kp d H8 H') ⟨_, _, _, _, _, rfl, D8, Kp.refl d H8⟩ (fun _ _ _ _ _ => trivial) ?_ ?_
    · rintro j y σ' H9 H10 hj ⟨x4, x6, x7, x8, x9, rfl, D9, k9⟩ ⟨rfl, hy⟩
      refine ⟨by show 0 ≤ sizeLine; decide, fun R nR => ?_⟩
      have dR := D9.nd nR
      have nR8 := none_kp' k9 dR.1 nR
      have k10 := k9.new (o := .lst []) nR
      have D10 := D9.new (o := .lst []) nR
      have eR : upd H10 R (.lst []) R = some (.lst (([] : List (Option Int)).map oV)) := upd_same
      generalize upd H10 R (.lst []) = H11 at k10 D10 eR
      have nv11 := nv8.mono (kpTup D8 k10)
      obtain ⟨na', pa', us', ena, f1', f2', lv11⟩ := id nv11
      cases ena
      refine ⟨_, rfl, na, _, 0, _, rfl, rfl, SqT.of f1', rfl, (n : Int), rfl, by omega, by omega, ?_⟩
      rw [Int.toNat_natCast]
      refine for_it walk_range (fun i σ' H' => ∃ (ps : List (Option Int)) (x4 x8 : Option V), σ' = [some (.ref a), some (.ref d), some (.ref na), some (.ref L), x4, some (.ref Tt), some y, some (.ref R), x8, x9] ∧ DI d l H' ∧ Kp d H8 H' ∧ H' R = some (.lst (ps.map oV)) ∧ ps.length = i) ⟨[], x4, x8, rfl, D10, k10, eR, rfl⟩ (fun _ _ _ _ _ => trivial) ?_ ?_
      · rintro i x σ' H12 H13 hi ⟨ps, x4, x8, rfl, D12, k12, eR12, lp⟩ ⟨rfl, hx⟩
        have hx : x = nV i := by rw [hx]; show V.int (0 + (i : Int)) = _; rw [Int.zero_add]; rfl
        subst hx
        refine ⟨_, rfl, _, rfl, L, _, _, _, rfl, rfl, SqL.of (k12 _ _ nLd eL8), atI_nat (oN_at (by omega)), ?_⟩
        obtain ⟨o0, eo0⟩ : ∃ o0 : Option Int, o0 = (ds.getD i none).map fun x : Nat => (x : Int) := ⟨_, rfl⟩
        have eo : oN (ds.getD i none) = oV o0 := by rw [eo0]; rfl
        rw [eo]
        refine ⟨fun σ' H' => ∃ o : Option Int, σ' = [some (.ref a), some (.ref d), some (.ref na), some (.ref L), some (nV i), some (.ref Tt), some y, some (.ref R), some (oV o), x9] ∧ DI d l H' ∧ Kp d H13 H', ?_, ?_⟩
        · refine ⟨_, rfl, rfl, ?_⟩
          cases o0 with
          | none => exact ⟨false, bNT rfl, none, rfl, D12, Kp.refl d H13⟩
          | some z =>
            refine ⟨true, bNF (fun z => by cases z), ?_⟩
            refine ⟨_, rfl, _, _, rfl, rfl, ?_⟩
            by_cases c0 : (0 : Int) < (i : Int)
            · refine ⟨true, bTr c0, ?_⟩
              refine ⟨_, rfl, _, rfl, d, l, 3, rfl, D12, by decide, fun H14 z2 k14 D14 _ _ => ?_⟩
              exact ⟨_, _, rfl, rfl, some (z - z2), rfl, D14, k14⟩
            · exact ⟨false, bFa c0, some z, rfl, D12, Kp.refl d H13⟩
        · rintro σ' H14 ⟨o, rfl, D14, k14⟩
          refine ⟨fun σ' H' => ∃ o : Option Int, σ' = [some (.ref a), some (.ref d), some (.ref na), some (.ref L), some (nV i), some (.ref Tt), some y, some (.ref R), some (oV o), x9] ∧ DI d l H' ∧ Kp d H13 H', ?_, ?_⟩
          · refine ⟨_, rfl, d, l, 8, rfl, D14, by decide, fun H15 z k15 D15 _ _ => ?_⟩
            refine ⟨rfl, _, rfl, ite2 (fun _ => ?_) (fun _ => ?_)⟩
            · exact ⟨none, rfl, D15, k14.trans k15⟩
            · exact ⟨o, rfl, D15, k14.trans k15⟩
          · rintro σ' H15 ⟨o, rfl, D15, k15⟩
            have eR15 := k15 _ _ dR.1 eR12
            refine ⟨.ref R, rfl, .inl ⟨rfl, _, .inl (.inl eR15)⟩, _, rfl, R, _, _, rfl, rfl, eR15, by rw [List.length_map]; exact szN (by omega), ?_⟩
            exact ⟨ps ++ [o], _, _, rfl, D15.at dR.1 dR.2, (k12.trans k15).mut nR8, by rw [upd_same, List.map_append]; rfl, by rw [List.length_append, lp]; rfl⟩
      · rintro σ' H12 ⟨ps, x4, x8, rfl, D12, k12, eR12, lp⟩
        have nv12 := nv8.mono (kpTup D8 k12)
        obtain ⟨na', pa', us', ena, f1', f2', lv12⟩ := id nv12
        cases ena
        have gR : (ps.map oV)[n - 1]? = some (oV (pg ps (n - 1))) := pg_at (by omega)
        refine ⟨_, rfl, _, rfl, na, _, 0, _, rfl, rfl, SqT.of f1', rfl, _, _, rfl, rfl, R, _, _, _, rfl, rfl, SqL.of eR12, by rw [en]; exact atI_nat gR, ?_⟩
        refine ⟨_, rfl, _, rfl, _, rfl, R, _, rfl, .inl ⟨SqL.of eR12, fun B2 nB2 => ?_⟩⟩
        have k13 := k12.new (o := .tup (ps.map oV)) nB2
        have D13 := D12.new (o := .tup (ps.map oV)) nB2
        have eB2 : upd H12 B2 (.tup (ps.map oV)) B2 = some (.tup (ps.map oV)) := upd_same
        generalize upd H12 B2 (.tup (ps.map oV)) = H13 at k13 D13 eB2
        have nv13 := nv8.mono (kpTup D8 k13)
        have eT13 := k13 _ _ nTd eT
        refine ⟨_, B2, n, as, pg ps (n - 1), ps, rfl, nv13, ok, SqT.of eB2, ?_⟩
        cases hp : paperOk n as (pg ps (n - 1)) ps with
        | false => exact ⟨false, rfl, _, _, _, _, _, rfl, D13, k13⟩
        | true =>
          refine ⟨true, rfl, ?_⟩
          have cl := fun z (hz : z ∈ totsOf as (n - 1)) => paper_claim hp hz
          cases eo : pg ps (n - 1) with
          | none =>
            rw [eo] at cl
            have et : totsOf as (n - 1) = [] := List.eq_nil_iff_forall_not_mem.mpr fun z hz => by obtain ⟨x, e, _⟩ := cl z hz; cases e
            rw [et] at eT13
            refine ⟨_, rfl, rfl, true, bTr rfl, _, rfl, false, .inl ⟨_, SqL.of eT13, rfl⟩, ?_⟩
            exact ⟨_, rfl, rfl, false, bNT rfl, _, _, _, _, _, rfl, D13, k13⟩
          | some x =>
            rw [eo] at cl
            refine ⟨_, rfl, rfl, false, bFa (fun z => by cases z), ?_⟩
            refine ⟨_, rfl, rfl, true, bNF (fun z => by cases z), _, rfl, ?_⟩
            cases et : totsOf as (n - 1) with
            | nil =>
              rw [et] at eT13
              exact ⟨false, .inl ⟨_, SqL.of eT13, rfl⟩, _, _, _, _, _, rfl, D13, k13⟩
            | cons t0 tr =>
              refine ⟨true, .inl ⟨_, SqL.of eT13, by rw [et]; rfl⟩, ?_⟩
              refine ⟨_, rfl, Tt, (totsOf as (n - 1)).map (fun x : Nat => (x : Int)), rfl, SqL.of (by rw [eT13, List.map_map]; rfl), by rw [List.length_map, et]; exact Nat.succ_pos _, fun m hm hM => ?_⟩
              obtain ⟨m, hm2, rfl⟩ := List.mem_map.mp hm
              obtain ⟨x', e, l2⟩ := cl m hm2
              have e := Option.some.inj e
              exact ⟨_, rfl, _, _, rfl, rfl, false, bFa (by omega), _, _, _, _, _, rfl, D13, k13⟩
    · rintro σ' H9 ⟨x4, x6, x7, x8, x9, rfl, D9, k9⟩
      exact q _
end
theorem all_mk {l : PySem.W.OpenLaw} {w : World} {K : PySem.W.Frag} {h : Heap} {mg : Str → Option Value} {fa : Addr} (X : K.In h) (G : h.Ns mainGlobals mg) (hfa : mg "law" = some (.ref fa))
    {f_bounds_of : Addr} {od_bounds_of an_bounds_of : Option Addr} {sl_bounds_of : Array (Option Value)} {oc_bounds_of kV_bounds_of dc_bounds_of pm_bounds_of cd_bounds_of ct_bounds_of : Value}
    (a_bounds_of : PySem.W.nsIn K mainGlobals "bounds_of" = some (some (.ref f_bounds_of))) (l_bounds_of : K.lookup f_bounds_of = some ⟨oc_bounds_of, od_bounds_of, .func (PySem.W.fnOf "bounds_of" "bounds_of" (defArgs s_bounds_of) (defBody s_bounds_of) (defScope s_bounds_of) .none kV_bounds_of dc_bounds_of pm_bounds_of an_bounds_of cd_bounds_of ct_bounds_of), sl_bounds_of⟩) (c_bounds_of : PySem.W.codeIn K cd_bounds_of "bounds_of" = true) (k_bounds_of : PySem.W.keepIn K (.ref f_bounds_of) = true)
    {f_judge_bounds : Addr} {od_judge_bounds an_judge_bounds : Option Addr} {sl_judge_bounds : Array (Option Value)} {oc_judge_bounds kV_judge_bounds dc_judge_bounds pm_judge_bounds cd_judge_bounds ct_judge_bounds : Value}
    (a_judge_bounds : PySem.W.nsIn K mainGlobals "judge_bounds" = some (some (.ref f_judge_bounds))) (l_judge_bounds : K.lookup f_judge_bounds = some ⟨oc_judge_bounds, od_judge_bounds, .func (PySem.W.fnOf "judge_bounds" "judge_bounds" (defArgs s_judge_bounds) (defBody s_judge_bounds) (defScope s_judge_bounds) .none kV_judge_bounds dc_judge_bounds pm_judge_bounds an_judge_bounds cd_judge_bounds ct_judge_bounds), sl_judge_bounds⟩) (c_judge_bounds : PySem.W.codeIn K cd_judge_bounds "judge_bounds" = true) (k_judge_bounds : PySem.W.keepIn K (.ref f_judge_bounds) = true)
    {f_leading : Addr} {od_leading an_leading : Option Addr} {sl_leading : Array (Option Value)} {oc_leading kV_leading dc_leading pm_leading cd_leading ct_leading : Value}
    (a_leading : PySem.W.nsIn K mainGlobals "_leading" = some (some (.ref f_leading))) (l_leading : K.lookup f_leading = some ⟨oc_leading, od_leading, .func (PySem.W.fnOf "_leading" "_leading" (defArgs s_leading) (defBody s_leading) (defScope s_leading) .none kV_leading dc_leading pm_leading an_leading cd_leading ct_leading), sl_leading⟩) (c_leading : PySem.W.codeIn K cd_leading "_leading" = true) (k_leading : PySem.W.keepIn K (.ref f_leading) = true)
    {f_bounds_and_tails : Addr} {od_bounds_and_tails an_bounds_and_tails : Option Addr} {sl_bounds_and_tails : Array (Option Value)} {oc_bounds_and_tails kV_bounds_and_tails dc_bounds_and_tails pm_bounds_and_tails cd_bounds_and_tails ct_bounds_and_tails : Value}
    (a_bounds_and_tails : PySem.W.nsIn K mainGlobals "_bounds_and_tails" = some (some (.ref f_bounds_and_tails))) (l_bounds_and_tails : K.lookup f_bounds_and_tails = some ⟨oc_bounds_and_tails, od_bounds_and_tails, .func (PySem.W.fnOf "_bounds_and_tails" "_bounds_and_tails" (defArgs s_bounds_and_tails) (defBody s_bounds_and_tails) (defScope s_bounds_and_tails) .none kV_bounds_and_tails dc_bounds_and_tails pm_bounds_and_tails an_bounds_and_tails cd_bounds_and_tails ct_bounds_and_tails), sl_bounds_and_tails⟩) (c_bounds_and_tails : PySem.W.codeIn K cd_bounds_and_tails "_bounds_and_tails" = true) (k_bounds_and_tails : PySem.W.keepIn K (.ref f_bounds_and_tails) = true)
    {f_law_begin : Addr} {od_law_begin an_law_begin : Option Addr} {sl_law_begin : Array (Option Value)} {oc_law_begin kV_law_begin dc_law_begin pm_law_begin cd_law_begin ct_law_begin : Value}
    (a_law_begin : PySem.W.nsIn K mainGlobals "_law_begin" = some (some (.ref f_law_begin))) (l_law_begin : K.lookup f_law_begin = some ⟨oc_law_begin, od_law_begin, .func (PySem.W.fnOf "_law_begin" "_law_begin" (defArgs s_law_begin) (defBody s_law_begin) (defScope s_law_begin) .none kV_law_begin dc_law_begin pm_law_begin an_law_begin cd_law_begin ct_law_begin), sl_law_begin⟩) (c_law_begin : PySem.W.codeIn K cd_law_begin "_law_begin" = true) (k_law_begin : PySem.W.keepIn K (.ref f_law_begin) = true)
    {f_law_draw : Addr} {od_law_draw an_law_draw : Option Addr} {sl_law_draw : Array (Option Value)} {oc_law_draw kV_law_draw dc_law_draw pm_law_draw cd_law_draw ct_law_draw : Value}
    (a_law_draw : PySem.W.nsIn K mainGlobals "_law_draw" = some (some (.ref f_law_draw))) (l_law_draw : K.lookup f_law_draw = some ⟨oc_law_draw, od_law_draw, .func (PySem.W.fnOf "_law_draw" "_law_draw" (defArgs s_law_draw) (defBody s_law_draw) (defScope s_law_draw) .none kV_law_draw dc_law_draw pm_law_draw an_law_draw cd_law_draw ct_law_draw), sl_law_draw⟩) (c_law_draw : PySem.W.codeIn K cd_law_draw "_law_draw" = true) (k_law_draw : PySem.W.keepIn K (.ref f_law_draw) = true)
    {f_law_exact : Addr} {od_law_exact an_law_exact : Option Addr} {sl_law_exact : Array (Option Value)} {oc_law_exact kV_law_exact dc_law_exact pm_law_exact cd_law_exact ct_law_exact : Value}
    (a_law_exact : PySem.W.nsIn K mainGlobals "_law_exact" = some (some (.ref f_law_exact))) (l_law_exact : K.lookup f_law_exact = some ⟨oc_law_exact, od_law_exact, .func (PySem.W.fnOf "_law_exact" "_law_exact" (defArgs s_law_exact) (defBody s_law_exact) (defScope s_law_exact) .none kV_law_exact dc_law_exact pm_law_exact an_law_exact cd_law_exact ct_law_exact), sl_law_exact⟩) (c_law_exact : PySem.W.codeIn K cd_law_exact "_law_exact" = true) (k_law_exact : PySem.W.keepIn K (.ref f_law_exact) = true)
    {f_law_net : Addr} {od_law_net an_law_net : Option Addr} {sl_law_net : Array (Option Value)} {oc_law_net kV_law_net dc_law_net pm_law_net cd_law_net ct_law_net : Value}
    (a_law_net : PySem.W.nsIn K mainGlobals "_law_net" = some (some (.ref f_law_net))) (l_law_net : K.lookup f_law_net = some ⟨oc_law_net, od_law_net, .func (PySem.W.fnOf "_law_net" "_law_net" (defArgs s_law_net) (defBody s_law_net) (defScope s_law_net) .none kV_law_net dc_law_net pm_law_net an_law_net cd_law_net ct_law_net), sl_law_net⟩) (c_law_net : PySem.W.codeIn K cd_law_net "_law_net" = true) (k_law_net : PySem.W.keepIn K (.ref f_law_net) = true)
    {f_law_totals : Addr} {od_law_totals an_law_totals : Option Addr} {sl_law_totals : Array (Option Value)} {oc_law_totals kV_law_totals dc_law_totals pm_law_totals cd_law_totals ct_law_totals : Value}
    (a_law_totals : PySem.W.nsIn K mainGlobals "_law_totals" = some (some (.ref f_law_totals))) (l_law_totals : K.lookup f_law_totals = some ⟨oc_law_totals, od_law_totals, .func (PySem.W.fnOf "_law_totals" "_law_totals" (defArgs s_law_totals) (defBody s_law_totals) (defScope s_law_totals) .none kV_law_totals dc_law_totals pm_law_totals an_law_totals cd_law_totals ct_law_totals), sl_law_totals⟩) (c_law_totals : PySem.W.codeIn K cd_law_totals "_law_totals" = true) (k_law_totals : PySem.W.keepIn K (.ref f_law_totals) = true)
    {f_law : Addr} {od_law an_law : Option Addr} {sl_law : Array (Option Value)} {oc_law kV_law dc_law pm_law cd_law ct_law : Value}
    (a_law : PySem.W.nsIn K mainGlobals "law" = some (some (.ref f_law))) (l_law : K.lookup f_law = some ⟨oc_law, od_law, .func (PySem.W.fnOf "law" "law" (defArgs s_law) (defBody s_law) (defScope s_law) .none kV_law dc_law pm_law an_law cd_law ct_law), sl_law⟩) (c_law : PySem.W.codeIn K cd_law "law" = true) (k_law : PySem.W.keepIn K (.ref f_law) = true)
    (n_bool : PySem.W.nsIn K mainGlobals "bool" = some none)
    (n_int : PySem.W.nsIn K mainGlobals "int" = some none)
    (n_isinstance : PySem.W.nsIn K mainGlobals "isinstance" = some none)
    (n_len : PySem.W.nsIn K mainGlobals "len" = some none)
    (n_list : PySem.W.nsIn K mainGlobals "list" = some none)
    (n_min : PySem.W.nsIn K mainGlobals "min" = some none)
    (n_range : PySem.W.nsIn K mainGlobals "range" = some none)
    (n_str : PySem.W.nsIn K mainGlobals "str" = some none)
    (n_tuple : PySem.W.nsIn K mainGlobals "tuple" = some none)
    {cB : Addr} (e_lam : cd_bounds_of = .ref cB) (hd_lam : PySem.W.codeHdIn K cB (He.tabOf K cB) = true) (no_lam : K.lookup (He.tabOf K cB) = none) (ht_lam : h.get? (He.tabOf K cB) = some { cls := .none, data := .fields #[] })
    : LamX.LawAtS l w K CX0 5 63 "_law_script" mg fa h := by
  have e := hfa.symm.trans (PySem.W.mg_of X G a_law)
  cases e
  have F_bounds_of := fun_mk (st := s_bounds_of) l_bounds_of c_bounds_of k_bounds_of
  have b_bounds_of := F_bounds_of.binds (ps := ["net"]) fun _ _ _ _ _ _ us hl => match us, hl with | [_], _ => rfl
  have F_judge_bounds := fun_mk (st := s_judge_bounds) l_judge_bounds c_judge_bounds k_judge_bounds
  have b_judge_bounds := F_judge_bounds.binds (ps := ["net", "total", "bounds"]) fun _ _ _ _ _ _ us hl => match us, hl with | [_, _, _], _ => rfl
  have F_leading := fun_mk (st := s_leading) l_leading c_leading k_leading
  have b_leading := F_leading.binds (ps := ["net"]) fun _ _ _ _ _ _ us hl => match us, hl with | [_], _ => rfl
  have F_bounds_and_tails := fun_mk (st := s_bounds_and_tails) l_bounds_and_tails c_bounds_and_tails k_bounds_and_tails
  have b_bounds_and_tails := F_bounds_and_tails.binds (ps := ["places", "leads"]) fun _ _ _ _ _ _ us hl => match us, hl with | [_, _], _ => rfl
  have F_law_begin := fun_mk (st := s_law_begin) l_law_begin c_law_begin k_law_begin
  have b_law_begin := F_law_begin.binds (ps := ["_law_script"]) fun _ _ _ _ _ _ us hl => match us, hl with | [_], _ => rfl
  have F_law_draw := fun_mk (st := s_law_draw) l_law_draw c_law_draw k_law_draw
  have b_law_draw := F_law_draw.binds (ps := ["_law_d", "_law_many"]) fun _ _ _ _ _ _ us hl => match us, hl with | [_, _], _ => rfl
  have F_law_exact := fun_mk (st := s_law_exact) l_law_exact c_law_exact k_law_exact
  have b_law_exact := F_law_exact.binds (ps := ["_law_told", "_law_due"]) fun _ _ _ _ _ _ us hl => match us, hl with | [_, _], _ => rfl
  have F_law_net := fun_mk (st := s_law_net) l_law_net c_law_net k_law_net
  have b_law_net := F_law_net.binds (ps := ["_law_d"]) fun _ _ _ _ _ _ us hl => match us, hl with | [_], _ => rfl
  have F_law_totals := fun_mk (st := s_law_totals) l_law_totals c_law_totals k_law_totals
  have b_law_totals := F_law_totals.binds (ps := ["_law_net_here", "_law_last"]) fun _ _ _ _ _ _ us hl => match us, hl with | [_, _], _ => rfl
  have F_law := fun_mk (st := s_law) l_law c_law k_law
  have b_law := F_law.binds (ps := ["_law_script"]) fun _ _ _ _ _ _ us hl => match us, hl with | [_], _ => rfl
  exact ⟨PySem.W.fnOf "law" "law" (defArgs s_law) (defBody s_law) (defScope s_law) .none kV_law dc_law pm_law an_law cd_law ct_law, [(cB, He.tabOf K cB)], spLaw K (He.tabOf K cB), fun p hp => by rw [List.mem_singleton.mp hp]; exact ht_lam, fun p hp => by rw [List.mem_singleton.mp hp]; exact no_lam, fun p hp => by rw [List.mem_singleton.mp hp]; exact PySem.W.codeHd_of_K X hd_lam, fun s v => .of_eq rfl, fun H a ns hl _ hp hS => ⟨a, ns, rfl, hS, hl, fun p hp2 => (by rw [List.mem_singleton.mp hp2]; exact LamX.TabS.nil (hp _ (List.mem_singleton.mpr rfl))), fun _ => rfl⟩, fun base _ _ hB => ok_law (c := cB) (Pt := He.tabOf K cB) (hcode := e_lam) (TB := hB _ (List.mem_singleton.mpr rfl)) (T := {
    a_bounds_of := _,
    d_bounds_of := _,
    D_bounds_of := ⟨F_bounds_of, PySem.W.mg_of X G a_bounds_of, b_bounds_of, ⟨_, _, _, _, _, _, rfl⟩⟩,
    a_judge_bounds := _,
    d_judge_bounds := _,
    D_judge_bounds := ⟨F_judge_bounds, PySem.W.mg_of X G a_judge_bounds, b_judge_bounds, ⟨_, _, _, _, _, _, rfl⟩⟩,
    a_leading := _,
    d_leading := _,
    D_leading := ⟨F_leading, PySem.W.mg_of X G a_leading, b_leading, ⟨_, _, _, _, _, _, rfl⟩⟩,
    a_bounds_and_tails := _,
    d_bounds_and_tails := _,
    D_bounds_and_tails := ⟨F_bounds_and_tails, PySem.W.mg_of X G a_bounds_and_tails, b_bounds_and_tails, ⟨_, _, _, _, _, _, rfl⟩⟩,
    a_law_begin := _,
    d_law_begin := _,
    D_law_begin := ⟨F_law_begin, PySem.W.mg_of X G a_law_begin, b_law_begin, ⟨_, _, _, _, _, _, rfl⟩⟩,
    a_law_draw := _,
    d_law_draw := _,
    D_law_draw := ⟨F_law_draw, PySem.W.mg_of X G a_law_draw, b_law_draw, ⟨_, _, _, _, _, _, rfl⟩⟩,
    a_law_exact := _,
    d_law_exact := _,
    D_law_exact := ⟨F_law_exact, PySem.W.mg_of X G a_law_exact, b_law_exact, ⟨_, _, _, _, _, _, rfl⟩⟩,
    a_law_net := _,
    d_law_net := _,
    D_law_net := ⟨F_law_net, PySem.W.mg_of X G a_law_net, b_law_net, ⟨_, _, _, _, _, _, rfl⟩⟩,
    a_law_totals := _,
    d_law_totals := _,
    D_law_totals := ⟨F_law_totals, PySem.W.mg_of X G a_law_totals, b_law_totals, ⟨_, _, _, _, _, _, rfl⟩⟩,
    a_law := _,
    d_law := _,
    D_law := ⟨F_law, PySem.W.mg_of X G a_law, b_law, ⟨_, _, _, _, _, _, rfl⟩⟩,
    n_bool := PySem.W.mg_none_of X G n_bool,
    n_int := PySem.W.mg_none_of X G n_int,
    n_isinstance := PySem.W.mg_none_of X G n_isinstance,
    n_len := PySem.W.mg_none_of X G n_len,
    n_list := PySem.W.mg_none_of X G n_list,
    n_min := PySem.W.mg_none_of X G n_min,
    n_range := PySem.W.mg_none_of X G n_range,
    n_str := PySem.W.mg_none_of X G n_str,
    n_tuple := PySem.W.mg_none_of X G n_tuple })⟩
end Vf
open PySem PySem.W PyProof.Rows
set_option maxHeartbeats 0 in
theorem PySem.Challenge.cw_hushedpages_k03_whole_bounds_shut_out_holds : PySem.Challenge.rw_hushedpages_k03_whole_bounds_shut_out.Holds := by
  w_on; o_law; k_head; (case hw => w_witness2)
  k_fill
  refine LamX.walk_ofTs (l := PySem.Challenge.rw_hushedpages_k03_whole_bounds_shut_out) (n := 63) (k := 5) (x := "_law_script") (CX := fun _ => L2.CX0) rfl (by decide) rfl ⟨rfl, by decide, by decide⟩ (fun w h Y => PySem.W.km_in_of Y) ?F (fun _ _ _ _ _ h => h)
  case F =>
    intro w mg fa h Y KX G hmg
    have hTs := PySem.W.km_tabs_of Y
    refine' Vf.all_mk KX G hmg ?a_bounds_of ?l_bounds_of ?c_bounds_of ?k_bounds_of ?a_judge_bounds ?l_judge_bounds ?c_judge_bounds ?k_judge_bounds ?a_leading ?l_leading ?c_leading ?k_leading ?a_bounds_and_tails ?l_bounds_and_tails ?c_bounds_and_tails ?k_bounds_and_tails ?a_law_begin ?l_law_begin ?c_law_begin ?k_law_begin ?a_law_draw ?l_law_draw ?c_law_draw ?k_law_draw ?a_law_exact ?l_law_exact ?c_law_exact ?k_law_exact ?a_law_net ?l_law_net ?c_law_net ?k_law_net ?a_law_totals ?l_law_totals ?c_law_totals ?k_law_totals ?a_law ?l_law ?c_law ?k_law ?n_bool ?n_int ?n_isinstance ?n_len ?n_list ?n_min ?n_range ?n_str ?n_tuple ?e_lam ?hd_lam ?no_lam ?ht_lam
    (case a_bounds_of => k_is)
    (case l_bounds_of => k_is)
    (case c_bounds_of => k_is)
    (case k_bounds_of => k_is)
    (case a_judge_bounds => k_is)
    (case l_judge_bounds => k_is)
    (case c_judge_bounds => k_is)
    (case k_judge_bounds => k_is)
    (case a_leading => k_is)
    (case l_leading => k_is)
    (case c_leading => k_is)
    (case k_leading => k_is)
    (case a_bounds_and_tails => k_is)
    (case l_bounds_and_tails => k_is)
    (case c_bounds_and_tails => k_is)
    (case k_bounds_and_tails => k_is)
    (case a_law_begin => k_is)
    (case l_law_begin => k_is)
    (case c_law_begin => k_is)
    (case k_law_begin => k_is)
    (case a_law_draw => k_is)
    (case l_law_draw => k_is)
    (case c_law_draw => k_is)
    (case k_law_draw => k_is)
    (case a_law_exact => k_is)
    (case l_law_exact => k_is)
    (case c_law_exact => k_is)
    (case k_law_exact => k_is)
    (case a_law_net => k_is)
    (case l_law_net => k_is)
    (case c_law_net => k_is)
    (case k_law_net => k_is)
    (case a_law_totals => k_is)
    (case l_law_totals => k_is)
    (case c_law_totals => k_is)
    (case k_law_totals => k_is)
    (case a_law => k_is)
    (case l_law => k_is)
    (case c_law => k_is)
    (case k_law => k_is)
    (case n_bool => k_is)
    (case n_int => k_is)
    (case n_isinstance => k_is)
    (case n_len => k_is)
    (case n_list => k_is)
    (case n_min => k_is)
    (case n_range => k_is)
    (case n_str => k_is)
    (case n_tuple => k_is)
    (case e_lam => exact rfl)
    (case hd_lam => kernel_rfl)
    (case no_lam => kernel_rfl)
    (case ht_lam => exact hTs _ (List.mem_of_elem_eq_true (by kernel_rfl)))
