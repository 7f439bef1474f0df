import PyProof.Rows.All
import Wide.All
import OpenK.AllK
import Wide.FinOn
import HandS.ForMost
import HandS.IsInst
import HandS.Conv
import HandS.Evl
import PyProof.StrBlock2
import HandS.ExcInit
import HandS.ExcIs
import HandS.ExcField
import HandS.Wide
import HandS.Walk
import HandS.Style
import PySem.Challenge.RW_hushedpages_k02_bounds_judged
set_option Elab.async false
set_option linter.all false
set_option maxRecDepth 100000
set_option maxHeartbeats 4000000
namespace Vf
open PySem PySem.Spec PyProof.Rows L2
def topS (i : Nat) : Stmt := PySem.Challenge.pw_hushedpages_k02_bounds_judged.main.body.getD i (.Pass ⟨0, 0, 0, 0⟩)
abbrev s_judge_bounds : Stmt := topS 1
theorem sc_judge_bounds : FnScope ["net", "total", "bounds", "many", "arcs", "tail", "head", "cost"] ["net", "total", "bounds"] (defScope s_judge_bounds) := ⟨rfl, rfl, rfl, by decide +kernel, rfl, by decide +kernel, by decide +kernel⟩
abbrev s_law_begin : Stmt := topS 3
theorem sc_law_begin : FnScope ["_law_script"] ["_law_script"] (defScope s_law_begin) := ⟨rfl, rfl, rfl, by decide +kernel, rfl, by decide +kernel, by decide +kernel⟩
abbrev s_law_draw : Stmt := topS 4
theorem sc_law_draw : FnScope ["_law_d", "_law_many", "_law_cell", "_law_found"] ["_law_d", "_law_many"] (defScope s_law_draw) := ⟨rfl, rfl, rfl, by decide +kernel, rfl, by decide +kernel, by decide +kernel⟩
abbrev s_law_pick : Stmt := topS 5
theorem sc_law_pick : FnScope ["_law_d", "_law_row"] ["_law_d", "_law_row"] (defScope s_law_pick) := ⟨rfl, rfl, rfl, by decide +kernel, rfl, by decide +kernel, by decide +kernel⟩
abbrev s_law_net : Stmt := topS 6
theorem sc_law_net : FnScope ["_law_d", "_law_many", "_law_arcs", "_law_tail", "_law_head"] ["_law_d"] (defScope s_law_net) := ⟨rfl, rfl, rfl, by decide +kernel, rfl, by decide +kernel, by decide +kernel⟩
abbrev s_law_right_bounds : Stmt := topS 7
theorem sc_law_right_bounds : FnScope ["_law_net_here", "_law_found", "_law_head", "_law_tail", "_law_end", "_law_cost"] ["_law_net_here"] (defScope s_law_right_bounds) := ⟨rfl, rfl, rfl, by decide +kernel, rfl, by decide +kernel, by decide +kernel⟩
abbrev s_law_is_paper : Stmt := topS 8
theorem sc_law_is_paper : FnScope ["_law_net_here", "_law_total", "_law_paper", "_law_tail", "_law_head", "_law_cost"] ["_law_net_here", "_law_total", "_law_paper"] (defScope s_law_is_paper) := ⟨rfl, rfl, rfl, by decide +kernel, rfl, by decide +kernel, by decide +kernel⟩
abbrev s_law_spoilt : Stmt := topS 9
theorem sc_law_spoilt : FnScope ["_law_d", "_law_paper", "_law_rows", "_law_kind", "_law_at", "_law_less", "_law_k"] ["_law_d", "_law_paper"] (defScope s_law_spoilt) := ⟨rfl, rfl, rfl, by decide +kernel, rfl, by decide +kernel, by decide +kernel⟩
abbrev s_law : Stmt := topS 10
theorem sc_law : FnScope ["_law_script", "_law_d", "_law_turn", "_law_net_here", "_law_right", "_law_total", "_law_k", "_law_paper", "_law_claim", "_law_told"] ["_law_script"] (defScope s_law) := ⟨rfl, rfl, rfl, by decide +kernel, rfl, by decide +kernel, by decide +kernel⟩
structure DefAt (K : PySem.W.Frag) (mg : Str → Option Value) (x : Str) (st : Stmt) (ps : List Str) (f : Addr) (fd : FuncData) : Prop where
  F : Fun K x x st f fd
  G : mg x = some (.ref f)
  B : Binds K fd ps []
  E : ∃ kV doc pm an cdv ct, fd = PySem.W.fnOf x x (defArgs st) (defBody st) (defScope st) .none kV doc pm an cdv ct
structure Txt (K : PySem.W.Frag) (mg : Str → Option Value) where
  a_judge_bounds : Addr
  d_judge_bounds : FuncData
  D_judge_bounds : DefAt K mg "judge_bounds" s_judge_bounds ["net", "total", "bounds"] a_judge_bounds d_judge_bounds
  a_law_begin : Addr
  d_law_begin : FuncData
  D_law_begin : DefAt K mg "_law_begin" s_law_begin ["_law_script"] a_law_begin d_law_begin
  a_law_draw : Addr
  d_law_draw : FuncData
  D_law_draw : DefAt K mg "_law_draw" s_law_draw ["_law_d", "_law_many"] a_law_draw d_law_draw
  a_law_pick : Addr
  d_law_pick : FuncData
  D_law_pick : DefAt K mg "_law_pick" s_law_pick ["_law_d", "_law_row"] a_law_pick d_law_pick
  a_law_net : Addr
  d_law_net : FuncData
  D_law_net : DefAt K mg "_law_net" s_law_net ["_law_d"] a_law_net d_law_net
  a_law_right_bounds : Addr
  d_law_right_bounds : FuncData
  D_law_right_bounds : DefAt K mg "_law_right_bounds" s_law_right_bounds ["_law_net_here"] a_law_right_bounds d_law_right_bounds
  a_law_is_paper : Addr
  d_law_is_paper : FuncData
  D_law_is_paper : DefAt K mg "_law_is_paper" s_law_is_paper ["_law_net_here", "_law_total", "_law_paper"] a_law_is_paper d_law_is_paper
  a_law_spoilt : Addr
  d_law_spoilt : FuncData
  D_law_spoilt : DefAt K mg "_law_spoilt" s_law_spoilt ["_law_d", "_law_paper"] a_law_spoilt d_law_spoilt
  a_law : Addr
  d_law : FuncData
  D_law : DefAt K mg "law" s_law ["_law_script"] a_law d_law
  n_bool : mg "bool" = none
  n_int : mg "int" = none
  n_isinstance : mg "isinstance" = none
  n_len : mg "len" = none
  n_list : mg "list" = none
  n_range : mg "range" = none
  n_tuple : mg "tuple" = none
/-! ### the dice -/
/-- at d the dice, at l the script's copy -/
structure DI (d l : Addr) (H : Hp) : Prop where
  ne : l ≠ d
  sc : ∃ ns : List Int, H l = some (.lst (ns.map V.int))
  st : ∃ i b s c : Int, 0 ≤ i ∧ H d = some (.lst [.ref l, .int i, .int b, .int s, .int c])
/-- all but the dice stands -/
def Kp (d : Addr) (H H' : Hp) : Prop := ∀ b o, b ≠ d → H b = some o → H' b = some o
theorem Kp.refl (d : Addr) (H : Hp) : Kp d H H := fun _ _ _ h => h
theorem Kp.trans {d : Addr} {H H1 H2 : Hp} (a : Kp d H H1) (b : Kp d H1 H2) : Kp d H H2 := fun x o n h => b x o n (a x o n h)
theorem Kp.upd {d : Addr} {H H' : Hp} {o : HO} (a : Kp d H H') : Kp d H (upd H' d o) := fun x u n h => by
  rw [upd_ne n]; exact a x u n h
theorem Kp.new {d p : Addr} {H H' : Hp} {o : HO} (a : Kp d H H') (hp : H' p = none) : Kp d H (L2.upd H' p o) := fun x u n h => by
  have h2 := a x u n h
  rw [upd_ne (ne_of_none h2 hp)]; exact h2
theorem Kp.mut {d p : Addr} {H H' : Hp} {o : HO} (a : Kp d H H') (hp : H p = none) : Kp d H (L2.upd H' p o) := fun x u n h => by
  rw [upd_ne (ne_of_none h hp)]; exact a x u n h
theorem Kp.sq {K : PySem.W.Frag} {d a : Addr} {H H' : Hp} {xs : List V} (k : Kp d H H') (n : a ≠ d) (h : SqL K H a xs) : SqL K H' a xs := by
  rcases h with (h | ⟨o, h⟩) | h
  · exact .inl (.inl (k _ _ n h))
  · exact .inl (.inr ⟨o, k _ _ n h⟩)
  · exact .inr h
theorem DI.keep {d l : Addr} {H H' : Hp} (h : DI d l H) (e : ∀ b o, H b = some o → H' b = some o) : DI d l H' := by
  obtain ⟨n, ⟨ns, h1⟩, i, b, s, c, h0, h2⟩ := h
  exact ⟨n, ⟨ns, e _ _ h1⟩, i, b, s, c, h0, e _ _ h2⟩
theorem DI.at {d l p : Addr} {H : Hp} {o : HO} (h : DI d l H) (n1 : p ≠ d) (n2 : p ≠ l) : DI d l (upd H p o) := by
  obtain ⟨n, ⟨ns, h1⟩, i, b, s, c, h0, h2⟩ := h
  exact ⟨n, ⟨ns, by rw [upd_ne n2.symm]; exact h1⟩, i, b, s, c, h0, by rw [upd_ne n1.symm]; exact h2⟩
theorem DI.new {d l p : Addr} {H : Hp} {o : HO} (h : DI d l H) (hp : H p = none) : DI d l (upd H p o) :=
  h.keep fun b u e => by rw [upd_ne (ne_of_none e hp)]; exact e
theorem DI.nd {d l p : Addr} {H : Hp} (h : DI d l H) (hp : H p = none) : p ≠ d ∧ p ≠ l := by
  obtain ⟨n, ⟨ns, h1⟩, i, b, s, c, h0, h2⟩ := h
  exact ⟨fun e => (by rw [e, h2] at hp; cases hp), fun e => (by rw [e, h1] at hp; cases hp)⟩
theorem DI.set {d l : Addr} {H : Hp} {i b s c : Int} (h : DI d l H) (h0 : 0 ≤ i) : DI d l (upd H d (.lst [.ref l, .int i, .int b, .int s, .int c])) := by
  obtain ⟨n, ⟨ns, h1⟩, _⟩ := h
  exact ⟨n, ⟨ns, by rw [upd_ne n]; exact h1⟩, i, b, s, c, h0, upd_same⟩
section
variable {P : Program} {w : World} {K : PySem.W.Frag} {mg : Str → Option Value} {base : Heap}
/-! ### begin -/
def spBegin (K : PySem.W.Frag) : Sp := fun vs H Q _ => ∃ (a : Addr) (ns : List Int), vs = [.ref a] ∧ SqL K H a (ns.map V.int) ∧ ns.length ≤ 63 ∧
  ∀ H' d l, Same H H' → DI d l H' → Q (.ref d) H'
theorem ok_begin (T : Txt K mg) : FnOk P w K mg base CX0 1 T.a_law_begin T.d_law_begin ["_law_script"] (spBegin K) := by
  refine T.D_law_begin.F.ok sc_law_begin (fun vs H Q E h => ?_) (fun cdv A outer s H vs Q E hr h => ?_)
  · obtain ⟨a, ns, rfl, _⟩ := h
    rfl
  · obtain ⟨a, ns, rfl, hS, hl, q⟩ := h
    refine ⟨_, (pss_one (ps_ret (pe_lst (pa_cons (pe_callTy call_list_of (by rfl) T.n_list (by decide +kernel) (pa_cons (pv 0) pa_nil)) (pa_cons pe_int (pa_cons pe_int (pa_cons pe_int (pa_cons pe_int pa_nil)))))))), ?_⟩
    refine ⟨_, rfl, a, _, rfl, .inl hS, fun l nl => ?_⟩
    refine ⟨by show 5 ≤ sizeLine; decide, fun d nd => ?_⟩
    refine q _ d l (fun b o e => ?_) ?_
    · have n1 : b ≠ l := ne_of_none e nl
      have e1 : upd H l (.lst (ns.map V.int)) b = some o := by rw [upd_ne n1]; exact e
      rw [upd_ne (ne_of_none e1 nd)]
      exact e1
    · have e1 : upd H l (.lst (ns.map V.int)) l = some (.lst (ns.map V.int)) := upd_same
      have n1 : l ≠ d := ne_of_none e1 nd
      exact ⟨n1, ⟨ns, by rw [upd_ne n1]; exact e1⟩, 0, 0, 7, 0, by decide, upd_same⟩
/-! ### draw -/
def spDraw : Sp := fun vs H Q _ => ∃ (d l : Addr) (m : Int), vs = [.ref d, .int m] ∧ DI d l H ∧ m ≤ 1000000 ∧
  ∀ H' r, Kp d H H' → DI d l H' → (m < 2 → r = 0) → (2 ≤ m → 0 ≤ r ∧ r < m) → Q (.int r) H'
theorem ok_draw (T : Txt K mg) : FnOk P w K mg base CX0 1 T.a_law_draw T.d_law_draw ["_law_d", "_law_many"] spDraw := by
  refine T.D_law_draw.F.ok sc_law_draw (fun vs H Q E h => ?_) (fun cdv A outer s H vs Q E hr h => ?_)
  · obtain ⟨d, l, m, rfl, _⟩ := h
    rfl
  · obtain ⟨d, l, m, rfl, hD, hm, q⟩ := h
    refine ⟨_, (pss_cons (ps_if (pt_cmpR op_lt (pv 1) pe_int (nomark _)) (pss_one (ps_ret pe_int)) pss_nil)
      (pss_cons (ps_set (i := 2) sc_law_draw.nd rfl (.inl rfl) (pe_op op_add (pe_op op_mul (pe_ix ix_list (pv 0) pe_int (fun _ _ => rfl)) pe_int) pe_int))
      (Evl.pss_cut (ps_if (PW.pt (pw_and (pt_cmpR op_eq (pe_ix ix_list (pv 0) pe_int (fun _ _ => rfl)) pe_int (nomark _)) (pw_and1 (pt_cmpR op_lt (pe_ix ix_list (pv 0) pe_int (fun _ _ => rfl)) (pe_callB call_len_seq (by rfl) T.n_len PySem.boot_len (pa_cons (pe_ix ix_list (pv 0) pe_int (fun _ _ => rfl)) pa_nil)) (nomark _))))) (pss_cons (ps_set (i := 2) sc_law_draw.nd rfl (.inl rfl) (pe_ix ix_list (pe_ix ix_list (pv 0) pe_int (fun _ _ => rfl)) (pe_ix ix_list (pv 0) pe_int (fun _ _ => rfl)) (fun _ _ => rfl)))
      (pss_cons (ps_asg (pe_op op_add (pe_ix ix_list (pv 0) pe_int (fun _ _ => rfl)) pe_int) (pg_sub (pv 0) pe_int set_list))
      (Evl.pss_cut (ps_if (pt_cmpR op_lt (pv 2) pe_int (nomark _)) (pss_one (ps_set (i := 2) sc_law_draw.nd rfl (.inl rfl) (pe_op op_sub pe_int (pe_op op_mul pe_int (pv 2))))) pss_nil)
      (pss_one (ps_if (pt_cmpR op_ge (pv 2) pe_int (nomark _)) (pss_cons (ps_set (i := 2) sc_law_draw.nd rfl (.inl rfl) (pe_op op_and (pv 2) (pe_op op_sub (pe_op op_shl pe_int pe_int) pe_int)))
      (pss_one (ps_asg (pv 2) (pg_sub (pv 0) pe_int set_list)))) pss_nil))))) pss_nil)
      (pss_cons (ps_if (pt_cmpR op_gt (pe_ix ix_list (pv 0) pe_int (fun _ _ => rfl)) pe_int (nomark _)) (pss_cons (ps_set (i := 3) sc_law_draw.nd rfl (.inl rfl) (pe_op op_modN (pe_callTy call_int1 (by rfl) T.n_int (by decide +kernel) (pa_cons (pe_ix ix_list (pv 0) pe_int (fun _ _ => rfl)) pa_nil)) (pv 1)))
      (pss_cons (ps_asg (pe_op op_fdivN (pe_ix ix_list (pv 0) pe_int (fun _ _ => rfl)) (pv 1)) (pg_sub (pv 0) pe_int set_list))
      (pss_one (ps_ret (pv 3))))) pss_nil)
      (pss_cons (ps_asg (pe_op op_add (pe_ix ix_list (pv 0) pe_int (fun _ _ => rfl)) pe_int) (pg_sub (pv 0) pe_int set_list))
      (pss_cons (ps_asg (pe_op op_modN (pe_callTy call_int1 (by rfl) T.n_int (by decide +kernel) (pa_cons (pe_op op_add (pe_op op_add (pe_op op_mul (pe_ix ix_list (pv 0) pe_int (fun _ _ => rfl)) pe_int) (pe_op op_mul (pv 2) pe_int)) (pe_op op_mul (pe_ix ix_list (pv 0) pe_int (fun _ _ => rfl)) pe_int)) pa_nil)) pe_int) (pg_sub (pv 0) pe_int set_list))
      (pss_one (ps_ret (pe_op op_modN (pe_callTy call_int1 (by rfl) T.n_int (by decide +kernel) (pa_cons (pe_op op_modN (pe_callTy call_int1 (by rfl) T.n_int (by decide +kernel) (pa_cons (pe_op op_add (pe_op op_add (pe_op op_mul (pe_ix ix_list (pv 0) pe_int (fun _ _ => rfl)) pe_int) (pe_op op_mul (pe_ix ix_list (pv 0) pe_int (fun _ _ => rfl)) pe_int)) pe_int) pa_nil)) pe_int) pa_nil)) (pv 1)))))))))), ?_⟩
    refine ⟨_, rfl, _, _, rfl, rfl, _, rfl, ite2 (fun e => ?_) (fun e => ?_)⟩
    · have e := of_decide_eq_true e
      exact q H 0 (Kp.refl d H) hD (fun _ => rfl) (fun z => by omega)
    have hm2 : 2 ≤ m := by
      have e2 : ¬ m < 2 := fun z => e (decide_eq_true z)
      omega
    have hmN : m ≠ 0 := by omega
    have hmA : m.natAbs < 1073741824 := by omega
    have fm : ∀ z : Int, 0 ≤ z.fmod m ∧ z.fmod m < m := fun z => ⟨Int.fmod_nonneg_of_pos z (by omega), Int.fmod_lt_of_pos z (by omega)⟩
    obtain ⟨n, ⟨ns, h1⟩, i, b, s5, c, h0, h2⟩ := id hD
    -- cell = d[4] * 977 + 3
    refine ⟨_, rfl, _, _, _, _, rfl, rfl, SqL.of h2, rfl, _, _, rfl, rfl, .inr ⟨by decide, by decide⟩, _, _, rfl, rfl, ?_⟩
    refine ⟨fun σ' H' => ∃ (cell : Int) (x3 : Option V), σ' = [some (.ref d), some (.int m), some (.int cell), x3] ∧ Kp d H H' ∧ DI d l H', ?_, ?_⟩
    · -- the cell
      refine ⟨_, rfl, _, _, _, _, rfl, rfl, SqL.of h2, rfl, rfl, _, rfl, ite2 (fun e1 => ?_) (fun e1 => ?_)⟩
      · refine ⟨_, rfl, _, _, _, _, rfl, rfl, SqL.of h2, rfl, _, rfl, _, _, _, _, rfl, rfl, SqL.of h2, rfl, _, _, rfl, .inl (SqL.of h1), _, _, rfl, rfl, _, rfl, ite2 (fun e2 => ?_) (fun e2 => ?_)⟩
        · have e2 := of_decide_eq_true e2
          rw [List.length_map] at e2
          obtain ⟨j, rfl⟩ : ∃ j : Nat, i = (j : Int) := ⟨i.toNat, by omega⟩
          have hj : j < ns.length := by omega
          have gj : (ns.map V.int)[j]? = some (.int ns[j]) := by
            rw [List.getElem?_map, List.getElem?_eq_getElem hj]; rfl
          refine ⟨_, rfl, _, _, _, _, rfl, rfl, SqL.of h2, rfl, _, rfl, _, _, _, _, rfl, rfl, SqL.of h2, rfl, _, _, _, _, rfl, rfl, SqL.of h1, atI_nat gj, ?_⟩
          -- d[1] = d[1] + 1
          refine ⟨_, rfl, _, _, _, _, rfl, rfl, SqL.of h2, rfl, _, _, rfl, rfl, _, rfl, _, _, _, _, rfl, rfl, h2, rfl, ?_⟩
          have D1 := hD.set (i := (j : Int) + 1) (b := b) (s := s5) (c := c) (by omega)
          have K1 : Kp d H (upd H d (.lst [.ref l, .int ((j : Int) + 1), .int b, .int s5, .int c])) := (Kp.refl d H).upd
          refine ⟨fun σ' H' => ∃ (cell : Int) (x3 : Option V), σ' = [some (.ref d), some (.int m), some (.int cell), x3] ∧ H' = upd H d (.lst [.ref l, .int ((j : Int) + 1), .int b, .int s5, .int c]), ?_, ?_⟩
          · refine ⟨_, rfl, _, _, rfl, rfl, _, rfl, ite2 (fun _ => ?_) (fun _ => ?_)⟩
            · exact ⟨_, rfl, _, _, rfl, rfl, .inl ⟨by decide, by decide⟩, _, _, rfl, rfl, _, _, rfl, rfl⟩
            · exact ⟨_, _, rfl, rfl⟩
          · rintro σ' H' ⟨cell, x3, rfl, rfl⟩
            refine ⟨_, rfl, _, _, rfl, rfl, _, rfl, ite2 (fun _ => ?_) (fun _ => ?_)⟩
            · refine ⟨_, rfl, _, _, rfl, rfl, ⟨by decide, by decide, by decide⟩, _, _, rfl, rfl, _, _, rfl, rfl, ?_⟩
              refine ⟨_, rfl, _, rfl, _, _, _, _, rfl, rfl, upd_same, rfl, ?_⟩
              exact ⟨_, _, rfl, K1.upd, D1.set (by omega)⟩
            · exact ⟨_, _, rfl, K1, D1⟩
        · exact ⟨_, _, rfl, Kp.refl d H, hD⟩
      · exact ⟨_, _, rfl, Kp.refl d H, hD⟩
    · rintro σ' H1 ⟨cell, x3, rfl, K1, D1⟩
      obtain ⟨n, ⟨ns, h1⟩, i, b, s5, c, h0, h2⟩ := id D1
      refine ⟨_, rfl, _, _, _, _, rfl, rfl, SqL.of h2, rfl, _, _, rfl, rfl, _, rfl, ite2 (fun e1 => ?_) (fun e1 => ?_)⟩
      · refine ⟨_, rfl, _, _, _, _, rfl, rfl, SqL.of h2, rfl, .inl ⟨_, rfl, _, rfl, _, _, rfl, rfl, hmN, ?_⟩⟩
        refine ⟨_, rfl, _, _, _, _, rfl, rfl, SqL.of h2, rfl, _, rfl, _, _, rfl, rfl, ⟨hmN, hmA⟩, _, rfl, _, _, _, _, rfl, rfl, h2, rfl, ?_⟩
        exact ⟨_, rfl, q _ _ K1.upd (D1.set h0) (fun z => by omega) (fun _ => fm _)⟩
      · refine ⟨_, rfl, _, _, _, _, rfl, rfl, SqL.of h2, rfl, _, _, rfl, rfl, _, rfl, _, _, _, _, rfl, rfl, h2, rfl, ?_⟩
        refine ⟨_, rfl, _, _, _, _, rfl, rfl, SqL.of upd_same, rfl, _, _, rfl, rfl, .inr ⟨by decide, by decide⟩, _, rfl, _, _, rfl, rfl, .inr ⟨by decide, by decide⟩, _, _, rfl, rfl, _, rfl, _, _, _, _, rfl, rfl, SqL.of upd_same, rfl, _, _, rfl, rfl, .inr ⟨by decide, by decide⟩, _, _, rfl, rfl, .inl ⟨_, rfl, _, _, rfl, rfl, (by show (2147483647 : Int) ≠ 0; decide), _, rfl, _, _, _, _, rfl, rfl, upd_same, rfl, ?_⟩⟩
        refine ⟨_, rfl, _, _, _, _, rfl, rfl, SqL.of upd_same, rfl, _, _, rfl, rfl, .inr ⟨by decide, by decide⟩, _, rfl, _, _, _, _, rfl, rfl, SqL.of upd_same, rfl, _, _, rfl, rfl, .inr ⟨by decide, by decide⟩, _, _, rfl, rfl, _, _, rfl, rfl, .inl ⟨_, rfl, _, _, rfl, rfl, (by show (2147483399 : Int) ≠ 0; decide), .inl ⟨_, rfl, _, rfl, _, _, rfl, rfl, hmN, ?_⟩⟩⟩
        exact q _ _ K1.upd.upd ((D1.set h0).set h0) (fun z => by omega) (fun _ => fm _)
end
end Vf

set_option Elab.async false
set_option linter.all false
set_option maxRecDepth 100000
set_option maxHeartbeats 4000000
namespace Vf
open PySem PySem.Spec PyProof.Rows L2 TL
/-! ### the mathematics of tokens -/
def sW : Str := "abcdefghijklmnopqrstuvwxyz0123456789.,:;!?'()+=<>*/"
def sL : Str := "abcdefghijklmnopqrstuvwxyz"
def sB : Str := " \n"
def sOdd : Str := "\"#$&-ABCDEFGHIJKLMNOPQRSTUVWXYZ[\\]^_`|~"
def cW (c : Nat) : Bool := decide (c ∈ sW.cps.toList)
def cL (c : Nat) : Bool := decide (c ∈ sL.cps.toList)
def cB (c : Nat) : Bool := decide (c ∈ sB.cps.toList)
/-- the text of these signs -/
def mkS (zs : List Nat) : Str := ⟨zs.toArray⟩
def sV (zs : List Nat) : V := .str (mkS zs)
theorem mkS_cps (zs : List Nat) : (mkS zs).cps.toList = zs := rfl
theorem mkS_of (z : Str) : mkS z.cps.toList = z := rfl
theorem mkS_len (zs : List Nat) : (mkS zs).length = zs.length := by simp [mkS, Str.length]
theorem len_cps (z : Str) : z.length = z.cps.toList.length := by simp [Str.length]
theorem mkS_app (a b : List Nat) : mkS a ++ mkS b = mkS (a ++ b) := by
  have h : (mkS a ++ mkS b).cps.toList = a ++ b := by rw [Str.cps_append, Array.toList_append]; rfl
  rw [← h]
  rfl
theorem mkS_inj {a b : List Nat} (h : mkS a = mkS b) : a = b := by
  have h2 := congrArg (fun z : Str => z.cps.toList) h
  exact h2
theorem sW_list : sW.cps.toList = [97,98,99,100,101,102,103,104,105,106,107,108,109,110,111,112,113,114,115,116,117,118,119,120,121,122,48,49,50,51,52,53,54,55,56,57,46,44,58,59,33,63,39,40,41,43,61,60,62,42,47] := by decide +kernel
theorem sL_list : sL.cps.toList = [97,98,99,100,101,102,103,104,105,106,107,108,109,110,111,112,113,114,115,116,117,118,119,120,121,122] := by decide +kernel
theorem sB_list : sB.cps.toList = [32, 10] := by decide +kernel
theorem cL_W {c : Nat} (h : cL c = true) : cW c = true := by
  have h1 := of_decide_eq_true h
  refine decide_eq_true ?_
  rw [sL_list] at h1
  rw [sW_list]
  rw [show ([97,98,99,100,101,102,103,104,105,106,107,108,109,110,111,112,113,114,115,116,117,118,119,120,121,122,48,49,50,51,52,53,54,55,56,57,46,44,58,59,33,63,39,40,41,43,61,60,62,42,47] : List Nat) = [97,98,99,100,101,102,103,104,105,106,107,108,109,110,111,112,113,114,115,116,117,118,119,120,121,122] ++ [48,49,50,51,52,53,54,55,56,57,46,44,58,59,33,63,39,40,41,43,61,60,62,42,47] from rfl]
  exact List.mem_append_left _ h1
theorem cW_B {c : Nat} (h : cW c = true) : cB c = false := by
  refine decide_eq_false fun h2 => ?_
  rw [sB_list] at h2
  have h1 := of_decide_eq_true h
  rw [sW_list] at h1
  simp only [List.mem_cons, List.not_mem_nil, or_false] at h2
  rcases h2 with rfl | rfl
  · exact absurd h1 (by decide)
  · exact absurd h1 (by decide)
theorem cW_at : cW 64 = false := by
  unfold cW
  rw [sW_list]
  decide
theorem cB_at : cB 64 = false := by
  unfold cB
  rw [sB_list]
  decide
theorem cW_ne {c : Nat} (h : cW c = true) : c ≠ 64 := fun e => by
  rw [e, cW_at] at h
  cases h
theorem drop_le {α : Type} (p : α → Bool) : ∀ l : List α, (l.dropWhile p).length ≤ l.length
  | [] => Nat.le_refl _
  | c :: r => by
    rw [List.dropWhile_cons]
    split
    · exact Nat.le_trans (drop_le p r) (Nat.le_succ _)
    · exact Nat.le_refl _
/-- the tokens of a text -/
def tokF : Nat → List Nat → List (List Nat)
  | 0, _ => []
  | _ + 1, [] => []
  | n + 1, c :: r =>
    if cB c then tokF n r else if c = 64 then (c :: r.takeWhile cL) :: tokF n (r.dropWhile cL)
    else if cW c then (c :: r.takeWhile cW) :: tokF n (r.dropWhile cW) else [c] :: tokF n r
theorem tokF_more : ∀ (n m : Nat) (zs : List Nat), zs.length ≤ n → zs.length ≤ m → tokF n zs = tokF m zs
  | 0, 0, _, _, _ => rfl
  | 0, m + 1, zs, h, _ => by
    have e : zs = [] := List.length_eq_zero_iff.mp (Nat.le_zero.mp h)
    subst e
    rfl
  | n + 1, 0, zs, _, h => by
    have e : zs = [] := List.length_eq_zero_iff.mp (Nat.le_zero.mp h)
    subst e
    rfl
  | n + 1, m + 1, [], _, _ => rfl
  | n + 1, m + 1, c :: r, h1, h2 => by
    have a1 : r.length ≤ n := Nat.le_of_succ_le_succ h1
    have a2 : r.length ≤ m := Nat.le_of_succ_le_succ h2
    have d1 := drop_le cL r
    have d2 := drop_le cW r
    show (if cB c then tokF n r else if c = 64 then (c :: r.takeWhile cL) :: tokF n (r.dropWhile cL) else if cW c then (c :: r.takeWhile cW) :: tokF n (r.dropWhile cW) else [c] :: tokF n r) =
      (if cB c then tokF m r else if c = 64 then (c :: r.takeWhile cL) :: tokF m (r.dropWhile cL) else if cW c then (c :: r.takeWhile cW) :: tokF m (r.dropWhile cW) else [c] :: tokF m r)
    rw [tokF_more n m r a1 a2, tokF_more n m _ (Nat.le_trans d1 a1) (Nat.le_trans d1 a2), tokF_more n m _ (Nat.le_trans d2 a1) (Nat.le_trans d2 a2)]
def tok (zs : List Nat) : List (List Nat) := tokF zs.length zs
theorem tok_nil : tok [] = [] := rfl
theorem tok_cons (c : Nat) (r : List Nat) : tok (c :: r) = if cB c then tok r else if c = 64 then (c :: r.takeWhile cL) :: tok (r.dropWhile cL)
    else if cW c then (c :: r.takeWhile cW) :: tok (r.dropWhile cW) else [c] :: tok r := by
  show (if cB c then tokF r.length r else if c = 64 then (c :: r.takeWhile cL) :: tokF r.length (r.dropWhile cL) else if cW c then (c :: r.takeWhile cW) :: tokF r.length (r.dropWhile cW) else [c] :: tokF r.length r) = _
  rw [tokF_more r.length (r.dropWhile cL).length (r.dropWhile cL) (drop_le _ _) (Nat.le_refl _), tokF_more r.length (r.dropWhile cW).length (r.dropWhile cW) (drop_le _ _) (Nat.le_refl _)]
  rfl
/-! #### what the law's own walk has found, and how it goes on -/
def cont : Nat → List (List Nat) → List Nat → List (List Nat)
  | 1, f, r => f.dropLast ++ ((f.getLast?.getD []) ++ r.takeWhile cW) :: tok (r.dropWhile cW)
  | 2, f, r => f.dropLast ++ ((f.getLast?.getD []) ++ r.takeWhile cL) :: tok (r.dropWhile cL)
  | _, f, r => f ++ tok r
theorem cont0 (f : List (List Nat)) (r : List Nat) : cont 0 f r = f ++ tok r := rfl
theorem cont1 (g : List (List Nat)) (t r : List Nat) : cont 1 (g ++ [t]) r = g ++ (t ++ r.takeWhile cW) :: tok (r.dropWhile cW) := by
  show (g ++ [t]).dropLast ++ (((g ++ [t]).getLast?.getD []) ++ r.takeWhile cW) :: tok (r.dropWhile cW) = _
  rw [List.dropLast_concat, List.getLast?_concat]; rfl
theorem cont2 (g : List (List Nat)) (t r : List Nat) : cont 2 (g ++ [t]) r = g ++ (t ++ r.takeWhile cL) :: tok (r.dropWhile cL) := by
  show (g ++ [t]).dropLast ++ (((g ++ [t]).getLast?.getD []) ++ r.takeWhile cL) :: tok (r.dropWhile cL) = _
  rw [List.dropLast_concat, List.getLast?_concat]; rfl
/-- a sign that goes on -/
theorem cont1_on {c : Nat} (h : cW c = true) (g : List (List Nat)) (t r : List Nat) : cont 1 (g ++ [t]) (c :: r) = cont 1 (g ++ [t ++ [c]]) r := by
  rw [cont1, cont1, List.takeWhile_cons_of_pos h, List.dropWhile_cons_of_pos h, List.append_assoc]; rfl
theorem cont2_on {c : Nat} (h : cL c = true) (g : List (List Nat)) (t r : List Nat) : cont 2 (g ++ [t]) (c :: r) = cont 2 (g ++ [t ++ [c]]) r := by
  rw [cont2, cont2, List.takeWhile_cons_of_pos h, List.dropWhile_cons_of_pos h, List.append_assoc]; rfl
/-- a sign that doesn't -/
theorem cont1_off {c : Nat} (h : cW c = false) (g : List (List Nat)) (t r : List Nat) : cont 1 (g ++ [t]) (c :: r) = cont 0 (g ++ [t]) (c :: r) := by
  rw [cont1, cont0, List.takeWhile_cons_of_neg (by rw [h]; decide), List.dropWhile_cons_of_neg (by rw [h]; decide), List.append_nil, List.append_assoc]; rfl
theorem cont2_off {c : Nat} (h : cL c = false) (g : List (List Nat)) (t r : List Nat) : cont 2 (g ++ [t]) (c :: r) = cont 0 (g ++ [t]) (c :: r) := by
  rw [cont2, cont0, List.takeWhile_cons_of_neg (by rw [h]; decide), List.dropWhile_cons_of_neg (by rw [h]; decide), List.append_nil, List.append_assoc]; rfl
theorem cont_blank {c : Nat} (h : cB c = true) (f : List (List Nat)) (r : List Nat) : cont 0 f (c :: r) = cont 0 f r := by
  rw [cont0, cont0, tok_cons, if_pos h]
theorem cont_at (f : List (List Nat)) (r : List Nat) : cont 0 f (64 :: r) = cont 2 (f ++ [[64]]) r := by
  rw [cont0, cont2, tok_cons, if_neg (by rw [cB_at]; decide), if_pos rfl]; rfl
theorem cont_word {c : Nat} (h : cW c = true) (f : List (List Nat)) (r : List Nat) : cont 0 f (c :: r) = cont 1 (f ++ [[c]]) r := by
  rw [cont0, cont1, tok_cons, if_neg (by rw [cW_B h]; decide), if_neg (cW_ne h), if_pos h]; rfl
theorem cont_odd {c : Nat} (hb : cB c = false) (h : cW c = false) (ha : c ≠ 64) (f : List (List Nat)) (r : List Nat) : cont 0 f (c :: r) = cont 0 (f ++ [[c]]) r := by
  rw [cont0, cont0, tok_cons, if_neg (by rw [hb]; decide), if_neg ha, if_neg (by rw [h]; decide), List.append_assoc]; rfl
theorem cont_end1 (g : List (List Nat)) (t : List Nat) : cont 1 (g ++ [t]) [] = g ++ [t] := by
  rw [cont1]; show g ++ [t ++ []] = _; rw [List.append_nil]
theorem cont_end2 (g : List (List Nat)) (t : List Nat) : cont 2 (g ++ [t]) [] = g ++ [t] := by
  rw [cont2]; show g ++ [t ++ []] = _; rw [List.append_nil]
theorem cont_end0 (f : List (List Nat)) : cont 0 f [] = f := by
  rw [cont0, tok_nil, List.append_nil]
/-! #### tokens put together -/
/-- blanks and line feeds alone -/
def Bl (g : List Nat) : Prop := ∀ c ∈ g, cB c = true
/-- a token -/
def Tk (t : List Nat) : Prop := (∃ c, t = [c] ∧ cB c = false ∧ cW c = false ∧ c ≠ 64) ∨ (∃ r, t = 64 :: r ∧ ∀ c ∈ r, cL c = true) ∨ (t ≠ [] ∧ ∀ c ∈ t, cW c = true)
/-- the one runs on into the other -/
def runs (t u : List Nat) : Bool := if t.headD 0 = 64 then cL (u.headD 0) else cW (t.headD 0) && cW (u.headD 0)
theorem tok_gap : ∀ (g r : List Nat), Bl g → tok (g ++ r) = tok r
  | [], _, _ => rfl
  | c :: g, r, h => by
    rw [List.cons_append, tok_cons, if_pos (h c List.mem_cons_self)]
    exact tok_gap g r fun z hz => h z (List.mem_cons_of_mem _ hz)
theorem take_all {p : Nat → Bool} : ∀ (t r : List Nat), (∀ c ∈ t, p c = true) → (∀ c r', r = c :: r' → p c = false) → (t ++ r).takeWhile p = t ∧ (t ++ r).dropWhile p = r
  | [], [], _, _ => ⟨rfl, rfl⟩
  | [], c :: r, _, h => by
    have e := h c r rfl
    rw [List.nil_append, List.takeWhile_cons_of_neg (by rw [e]; decide), List.dropWhile_cons_of_neg (by rw [e]; decide)]
    exact ⟨rfl, rfl⟩
  | c :: t, r, ht, h => by
    have ⟨a, b⟩ := take_all t r (fun z hz => ht z (List.mem_cons_of_mem _ hz)) h
    rw [List.cons_append, List.takeWhile_cons_of_pos (ht c List.mem_cons_self), List.dropWhile_cons_of_pos (ht c List.mem_cons_self), a, b]
    exact ⟨rfl, rfl⟩
theorem tok_tok {t r : List Nat} (h : Tk t) (hr : r = [] ∨ runs t r = false) : tok (t ++ r) = t :: tok r := by
  rcases h with ⟨c, rfl, hb, hw, ha⟩ | ⟨u, rfl, hu⟩ | ⟨hn, hw⟩
  · show tok (c :: r) = _
    rw [tok_cons, if_neg (by rw [hb]; decide), if_neg ha, if_neg (by rw [hw]; decide)]
  · have hs : ∀ c r', r = c :: r' → cL c = false := by
      intro c r' e
      rcases hr with z | z
      · rw [z] at e; cases e
      · subst e; exact z
    have ⟨a, b⟩ := take_all u r hu hs
    rw [List.cons_append, tok_cons, if_neg (by rw [cB_at]; decide), if_pos rfl, a, b]
  · cases t with
    | nil => exact absurd rfl hn
    | cons c u =>
      have hc := hw c List.mem_cons_self
      have hs : ∀ x r', r = x :: r' → cW x = false := by
        intro x r' e
        rcases hr with z | z
        · rw [z] at e; cases e
        · subst e
          unfold runs at z
          rw [show (c :: u).headD 0 = c from rfl, if_neg (cW_ne hc), hc] at z
          exact z
      have ⟨a, b⟩ := take_all u r (fun z hz => hw z (List.mem_cons_of_mem _ hz)) hs
      rw [List.cons_append, tok_cons, if_neg (by rw [cW_B hc]; decide), if_neg (cW_ne hc), if_pos hc, a, b]
/-- tokens and the gaps behind them, put into one row -/
def mixed : List (List Nat) → List (List Nat) → List Nat
  | t :: ts, g :: gs => t ++ (g ++ mixed ts gs)
  | _, _ => []
/-- what is asked of a gap behind token k -/
def need (ts : List (List Nat)) (k : Nat) : Bool := match ts[k]?, ts[k + 1]? with
  | some t, some u => runs t u
  | _, _ => false
theorem runs_bl {t g r : List Nat} (hn : g ≠ []) (hg : Bl g) : runs t (g ++ r) = false := by
  cases g with
  | nil => exact absurd rfl hn
  | cons c g =>
    have hb := hg c List.mem_cons_self
    have hw : cW c = false := by
      cases e : cW c with
      | false => rfl
      | true => rw [cW_B e] at hb; cases hb
    have hl : cL c = false := by
      cases e : cL c with
      | false => rfl
      | true => rw [cL_W e] at hw; cases hw
    unfold runs
    rw [List.cons_append]
    show (if t.headD 0 = 64 then cL c else cW (t.headD 0) && cW c) = false
    rw [hl, hw, Bool.and_false]
    split <;> rfl
theorem runs_head {t u r : List Nat} (hu : u ≠ []) : runs t (u ++ r) = runs t u := by
  cases u with
  | nil => exact absurd rfl hu
  | cons c u => rfl
theorem Tk.ne {t : List Nat} (h : Tk t) : t ≠ [] := by
  rcases h with ⟨c, rfl, _⟩ | ⟨r, rfl, _⟩ | ⟨h, _⟩
  · exact fun e => by cases e
  · exact fun e => by cases e
  · exact h
theorem tok_mixed : ∀ (ts gs : List (List Nat)), (∀ t ∈ ts, Tk t) → gs.length = ts.length → (∀ k g, gs[k]? = some g → Bl g ∧ (need ts k = true → g ≠ [])) → tok (mixed ts gs) = ts
  | [], [], _, _, _ => rfl
  | [], _ :: _, _, h, _ => by cases h
  | _ :: _, [], _, h, _ => by cases h
  | t :: ts, g :: gs, ht, hl, hg => by
    have ih := tok_mixed ts gs (fun u hu => ht u (List.mem_cons_of_mem _ hu)) (Nat.succ.inj hl) (fun k g' e => by
      have := hg (k + 1) g' e
      exact this)
    obtain ⟨hb, hne⟩ := hg 0 g rfl
    show tok (t ++ (g ++ mixed ts gs)) = t :: ts
    rw [tok_tok (ht t List.mem_cons_self), tok_gap g _ hb, ih]
    by_cases e : g = []
    · subst e
      rw [List.nil_append]
      cases ts with
      | nil => exact .inl (by cases gs <;> rfl)
      | cons u us =>
        cases gs with
        | nil => cases hl
        | cons g2 gs2 =>
          refine .inr ?_
          show runs t (u ++ (g2 ++ mixed us gs2)) = false
          rw [runs_head (ht u (List.mem_cons_of_mem _ List.mem_cons_self)).ne]
          cases q : runs t u with
          | false => rfl
          | true => exact absurd rfl (hne q)
    · exact .inr (runs_bl e hb)
/-! #### small things -/
theorem take_succ' {α : Type} {l : List α} {i : Nat} {x : α} (h : l[i]? = some x) : l.take (i + 1) = l.take i ++ [x] := by
  rw [List.take_add_one, h]; rfl
theorem big_ok {n : Nat} (h : n ≤ 100000) : n ≤ sizeLine := Nat.le_trans h (by decide)
theorem get_sV {ts : List (List Nat)} {i : Nat} {t : List Nat} (h : ts[i]? = some t) : (ts.map sV)[i]? = some (sV t) := by
  rw [List.getElem?_map, h]; rfl
theorem drop_at {zs : List Nat} {i c : Nat} (h : zs[i]? = some c) : zs.drop i = c :: zs.drop (i + 1) := by
  have ⟨h1, h2⟩ := List.getElem?_eq_some_iff.mp h
  rw [List.drop_eq_getElem_cons h1, h2]
theorem same_mut {H H' : Hp} {p : Addr} {o : HO} (a : Same H H') (hp : H p = none) : Same H (upd H' p o) := fun x u h => by
  rw [upd_ne (ne_of_none h hp)]; exact a x u h
theorem same_upd {H H' : Hp} {p : Addr} {o : HO} (a : Same H H') (hp : H' p = none) : Same H (upd H' p o) := fun x u h => by
  have h2 := a x u h
  rw [upd_ne (ne_of_none h2 hp)]; exact h2
theorem dec_sign (c : Nat) (z : Str) (e : Nat) (hz : z = mkS [e]) : decide (V.str ⟨#[c]⟩ = V.str z) = decide (c = e) := by
  rw [hz]
  by_cases h : c = e
  · subst h; rw [decide_eq_true rfl]; exact decide_eq_true rfl
  · rw [decide_eq_false h]
    refine decide_eq_false fun q => h ?_
    have e2 : mkS [c] = mkS [e] := V.str.inj q
    have e3 := mkS_inj e2
    injection e3
theorem tf (b : Bool) : b = true ∨ b = false := by cases b <;> simp
theorem bl_of {p : Prop} [Decidable p] {b : Bool} (h : decide p = b) : V.bl (decide p) = V.bl b := congrArg V.bl h
theorem at_mk : (("@" : Str)) = mkS [64] := by decide +kernel
/-! ### texts put together -/
theorem empty_mk : (("" : Str)) = mkS [] := by decide +kernel
theorem map_sV (zss : List (List Nat)) : zss.map sV = (zss.map mkS).map V.str := by
  rw [List.map_map]; rfl
theorem sum_len : ∀ zss : List (List Nat), ((zss.map mkS).map (·.length)).sum = zss.flatten.length
  | [] => rfl
  | z :: r => by
    rw [List.map_cons, List.map_cons, List.sum_cons, sum_len r, List.flatten_cons, List.length_append, mkS_len]
theorem joinL_nil : ∀ zss : List (List Nat), joinL [] zss = zss.flatten
  | [] => rfl
  | [z] => by show z = z ++ []; rw [List.append_nil]
  | z :: y :: r => by
    show z ++ ([] ++ joinL [] (y :: r)) = z ++ (y :: r).flatten
    rw [List.nil_append, joinL_nil (y :: r)]
theorem join_mk (zss : List (List Nat)) : Txt.join ("" : Str) (zss.map mkS) = mkS zss.flatten := by
  have h : tl (Txt.join ("" : Str) (zss.map mkS)) = zss.flatten := by
    rw [join_eq, tl_join, show (zss.map mkS).map tl = zss from (by rw [List.map_map]; exact List.map_id'' (fun _ => rfl) zss), empty_mk]
    exact joinL_nil zss
  rw [← h]; rfl
theorem flat_len {B : Nat} : ∀ {zss : List (List Nat)}, (∀ z ∈ zss, z.length ≤ B) → zss.flatten.length ≤ zss.length * B
  | [], _ => Nat.zero_le _
  | z :: r, h => by
    have ih := flat_len (zss := r) fun y hy => h y (List.mem_cons_of_mem _ hy)
    have hz := h z List.mem_cons_self
    rw [List.flatten_cons, List.length_append, List.length_cons, Nat.succ_mul]
    omega
theorem flat_one : ∀ {zss : List (List Nat)}, (∀ z ∈ zss, z.length = 1) → zss.flatten.length = zss.length
  | [], _ => rfl
  | z :: r, h => by
    rw [List.flatten_cons, List.length_append, List.length_cons, flat_one fun y hy => h y (List.mem_cons_of_mem _ hy), h z List.mem_cons_self]
    omega
theorem blank_mk : ((" " : Str)) = mkS [32] := by decide +kernel
theorem feed_mk : (("\n" : Str)) = mkS [10] := by decide +kernel
end Vf

set_option Elab.async false
set_option linter.all false
set_option maxRecDepth 100000
set_option maxHeartbeats 4000000
namespace Vf
open PySem PySem.Spec PyProof.Rows L2 TL
/-- what the list of a comprehension holds: texts -/
def PvS (R : List Nat → Prop) (d l : Addr) (H : Hp) (D : Addr) (i : Nat) (H' : Hp) : Prop :=
  ∃ zss : List (List Nat), zss.length = i ∧ (∀ zs ∈ zss, R zs) ∧ Kp d H H' ∧ DI d l H' ∧ H' D = some (.lst (zss.map sV))
theorem PvS.start {R : List Nat → Prop} {d l D : Addr} {H : Hp} (hD : DI d l H) (nD : H D = none) : PvS R d l H D 0 (upd H D (.lst [])) :=
  ⟨[], rfl, (fun _ h => nomatch h), (Kp.refl d H).new nD, hD.new nD, upd_same⟩
theorem PvS.dice {R : List Nat → Prop} {d l D : Addr} {H H1 : Hp} {i : Nat} (p : PvS R d l H D i H1) : DI d l H1 := by
  obtain ⟨_, _, _, _, h, _⟩ := p
  exact h
theorem PvS.step {R : List Nat → Prop} {d l D : Addr} {H H1 H2 : Hp} {i : Nat} {zs : List Nat} (hD : DI d l H) (nD : H D = none) (p : PvS R d l H D i H1) (hi : i < 100000) (K2 : Kp d H1 H2) (D2 : DI d l H2) (r : R zs) :
    ∃ acc, H2 D = some (.lst acc) ∧ acc.length < sizeLine ∧ PvS R d l H D (i + 1) (upd H2 D (.lst (acc ++ [sV zs]))) := by
  obtain ⟨zss, hl, hR, K1, D1, e1⟩ := p
  have n1 := hD.nd nD
  have e2 : H2 D = some (.lst (zss.map sV)) := K2 _ _ n1.1 e1
  refine ⟨_, e2, ?_, zss ++ [zs], ?_, ?_, (K1.trans K2).mut nD, D2.at n1.1 n1.2, ?_⟩
  · rw [List.length_map, hl]
    exact Nat.lt_of_lt_of_le hi (by decide)
  · rw [List.length_append, hl]; rfl
  · intro z hz
    rcases List.mem_append.mp hz with h | h
    · exact hR z h
    · rw [List.mem_singleton.mp h]; exact r
  · rw [upd_same, List.map_append]; rfl
section
variable {P : Program} {w : World} {K : PySem.W.Frag} {mg : Str → Option Value} {base : Heap}
/-! ### pick, rare -/
/-- what is picked from -/
def Row (K : PySem.W.Frag) (H : Hp) (d : Addr) (row : V) (xs : List V) : Prop :=
  (∃ a, row = .ref a ∧ a ≠ d ∧ SqL K H a xs) ∨ ∃ zs, row = sV zs ∧ xs = zs.map fun c => sV [c]
def spPick (K : PySem.W.Frag) : Sp := fun vs H Q _ => ∃ (d l : Addr) (row : V) (xs : List V), vs = [.ref d, row] ∧ DI d l H ∧ Row K H d row xs ∧ 0 < xs.length ∧ xs.length ≤ 1000 ∧
  ∀ H' v, Kp d H H' → DI d l H' → v ∈ xs → Q v H'
theorem at_draw {xs : List V} {r : Int} (h : 0 < xs.length) (h1 : (xs.length : Int) < 2 → r = 0) (h2 : 2 ≤ (xs.length : Int) → 0 ≤ r ∧ r < (xs.length : Int)) :
    ∃ (j : Nat) (hj : j < xs.length), r = (j : Int) := by
  by_cases h3 : 2 ≤ (xs.length : Int)
  · have ⟨a, b⟩ := h2 h3
    exact ⟨r.toNat, by omega, by omega⟩
  · exact ⟨0, h, by rw [h1 (by omega)]; rfl⟩
theorem ok_pick (T : Txt K mg) : FnOk P w K mg base CX0 2 T.a_law_pick T.d_law_pick ["_law_d", "_law_row"] (spPick K) := by
  have G_law_draw : FnOk P w K mg base CX0 1 T.a_law_draw T.d_law_draw ["_law_d", "_law_many"] spDraw := ok_draw T
  refine T.D_law_pick.F.ok sc_law_pick (fun vs H Q E h => ?_) (fun cdv A outer s H vs Q E hr h => ?_)
  · obtain ⟨d, l, row, xs, rfl, _⟩ := h
    rfl
  · obtain ⟨d, l, row, xs, rfl, hD, hR, h0, hx, q⟩ := h
    refine ⟨_, (pss_one (ps_ret (pe_ix ix_seq (pv 1) (pe_call G_law_draw (hr.mono (by decide)) (by rfl) T.D_law_draw.G T.D_law_draw.F.kp T.D_law_draw.B .nil pass0 (pa_cons (pv 0) (pa_cons (pe_callB call_len (by rfl) T.n_len PySem.boot_len (pa_cons (pv 1) pa_nil)) pa_nil))) (fun _ _ => rfl)))), ?_⟩
    have hlen : LenV K row H xs.length := by
      rcases hR with ⟨a, rfl, _, hS⟩ | ⟨zs, rfl, rfl⟩
      · exact .inl ⟨_, hS, rfl⟩
      · rw [List.length_map] at hx ⊢
        refine ⟨?_, (mkS_len zs).symm⟩
        rw [mkS_len]
        exact Nat.le_trans hx (by decide)
    refine ⟨_, rfl, _, rfl, _, rfl, _, _, rfl, hlen, d, l, _, rfl, hD, by omega, fun H' r k D' e1 e2 => ?_⟩
    obtain ⟨j, hj, rfl⟩ := at_draw h0 e1 e2
    rcases hR with ⟨a, rfl, nd, hS⟩ | ⟨zs, rfl, rfl⟩
    · exact .inl ⟨a, xs, _, xs[j], rfl, rfl, k.sq nd hS, atI_nat (List.getElem?_eq_getElem hj), q H' _ k D' (List.getElem_mem hj)⟩
    · have hj2 : j < zs.length := by rw [List.length_map] at hj; exact hj
      refine .inr (.inr ⟨mkS zs, _, zs[j], rfl, rfl, ?_, ?_, q H' _ k D' (List.mem_map.mpr ⟨zs[j], List.getElem_mem hj2, rfl⟩)⟩)
      · rw [mkS_len]; rw [List.length_map] at hx; exact Nat.le_trans hx (by decide)
      · rw [mkS_cps]; exact atI_nat (List.getElem?_eq_getElem hj2)
def spRare : Sp := fun vs H Q _ => ∃ (d l : Addr) (m : Int), vs = [.ref d, .int m] ∧ DI d l H ∧ m ≤ 1000000 ∧ ∀ H' b, Kp d H H' → DI d l H' → Q (.bl b) H'
/-! ### run, word -/
def spRun : Sp := fun vs H Q _ => ∃ (d l : Addr) (cs : List Nat) (n : Int), vs = [.ref d, sV cs, .int n] ∧ DI d l H ∧ 0 < cs.length ∧ cs.length ≤ 1000 ∧ 0 ≤ n ∧ n ≤ 1000 ∧
  ∀ H' zs, Kp d H H' → DI d l H' → (zs.length : Int) = n → (∀ c ∈ zs, c ∈ cs) → Q (sV zs) H'
/-- texts of one sign each -/
def One (cs zs : List Nat) : Prop := ∃ c, zs = [c] ∧ c ∈ cs
theorem one_flat {cs : List Nat} : ∀ {zss : List (List Nat)}, (∀ z ∈ zss, One cs z) → zss.flatten.length = zss.length ∧ ∀ c ∈ zss.flatten, c ∈ cs
  | [], _ => ⟨rfl, fun _ h => nomatch h⟩
  | z :: r, h => by
    obtain ⟨c, rfl, hc⟩ := h z List.mem_cons_self
    have ⟨a, b⟩ := one_flat (zss := r) fun y hy => h y (List.mem_cons_of_mem _ hy)
    rw [List.flatten_cons]
    refine ⟨by rw [List.length_append, a]; show 1 + r.length = r.length + 1; omega, fun x hx => ?_⟩
    rcases List.mem_append.mp hx with e | e
    · rw [List.mem_singleton.mp e]; exact hc
    · exact b x e
theorem pick_one {d l : Addr} {cs : List Nat} {H : Hp} {Q : VK} (hD : DI d l H) (h0 : 0 < cs.length) (hx : cs.length ≤ 1000) (q : ∀ H' zs, Kp d H H' → DI d l H' → One cs zs → Q (sV zs) H') : spPick K [.ref d, sV cs] H Q E0 := by
  refine ⟨d, l, _, _, rfl, hD, .inr ⟨cs, rfl, rfl⟩, by rw [List.length_map]; exact h0, by rw [List.length_map]; exact hx, fun H' v k D' hv => ?_⟩
  obtain ⟨c, hc, rfl⟩ := List.mem_map.mp hv
  exact q H' _ k D' ⟨c, rfl, hc⟩
def spWord : Sp := fun vs H Q _ => ∃ (d l : Addr) (lo hi : Int), vs = [.ref d, .int lo, .int hi] ∧ DI d l H ∧ 0 ≤ lo ∧ lo ≤ hi ∧ hi ≤ 900 ∧
  ∀ H' zs, Kp d H H' → DI d l H' → lo ≤ (zs.length : Int) → (zs.length : Int) ≤ hi → (∀ c ∈ zs, cW c = true) → Q (sV zs) H'
end
end Vf

set_option Elab.async false
set_option linter.all false
set_option maxRecDepth 100000
set_option maxHeartbeats 4000000
namespace Vf
open PySem PySem.Spec PyProof.Rows L2 TL
/-! ### rows of things, nets -/
def nV (w : Nat) : V := .int (w : Int)
def oV : Option Int → V
  | none => .non
  | some x => .int x
theorem oV_inj : ∀ {a b : Option Int}, oV a = oV b → a = b
  | none, none, _ => rfl
  | some _, some _, h => by rw [V.int.inj h]
  | none, some _, h => by cases h
  | some _, none, h => by cases h
theorem szN {n : Nat} (h : n < 100000) : n < sizeLine := Nat.lt_of_lt_of_le h (by decide)
theorem bTr {p : Prop} [Decidable p] (h : p) : V.bl (decide p) = V.bl true := by rw [decide_eq_true h]
theorem bFa {p : Prop} [Decidable p] (h : ¬ p) : V.bl (decide p) = V.bl false := by rw [decide_eq_false h]
/-- what stands in a list or tuple, thing by thing -/
def LV {α : Type} (R : V → α → Prop) (vs : List V) (rs : List α) : Prop := vs.length = rs.length ∧ ∀ (i : Nat) (r : α), rs[i]? = some r → ∃ x, vs[i]? = some x ∧ R x r
theorem LV.nil {α : Type} {R : V → α → Prop} : LV R [] [] := ⟨rfl, fun i r h => by cases i <;> cases h⟩
theorem LV.mono {α : Type} {R R' : V → α → Prop} {vs : List V} {rs : List α} (h : LV R vs rs) (k : ∀ x r, R x r → R' x r) : LV R' vs rs := ⟨h.1, fun i r e => by
  obtain ⟨x, e1, e2⟩ := h.2 i r e
  exact ⟨x, e1, k _ _ e2⟩⟩
theorem LV.snoc {α : Type} {R : V → α → Prop} {vs : List V} {rs : List α} {x : V} {r : α} (h : LV R vs rs) (hx : R x r) : LV R (vs ++ [x]) (rs ++ [r]) := by
  refine ⟨by rw [List.length_append, List.length_append, h.1]; rfl, fun i q e => ?_⟩
  by_cases hi : i < rs.length
  · rw [List.getElem?_append_left hi] at e
    obtain ⟨y, e1, e2⟩ := h.2 i q e
    exact ⟨y, by rw [List.getElem?_append_left (by rw [h.1]; exact hi)]; exact e1, e2⟩
  · rw [List.getElem?_append_right (by omega)] at e
    have e0 : i - rs.length = 0 := by
      have := (List.getElem?_eq_some_iff.mp e).1
      simp at this
      exact this
    rw [e0] at e
    have e : r = q := Option.some.inj e
    subst e
    exact ⟨x, by rw [List.getElem?_append_right (by rw [h.1]; omega), h.1, e0]; rfl, hx⟩
theorem LV.at {α : Type} {R : V → α → Prop} {vs : List V} {rs : List α} {i : Nat} {x : V} (h : LV R vs rs) (e : vs[i]? = some x) : ∃ r, rs[i]? = some r ∧ R x r := by
  have hi : i < rs.length := by rw [← h.1]; exact (List.getElem?_eq_some_iff.mp e).1
  obtain ⟨y, e1, e2⟩ := h.2 i _ (List.getElem?_eq_getElem hi)
  rw [e] at e1
  have := Option.some.inj e1
  subst this
  exact ⟨_, List.getElem?_eq_getElem hi, e2⟩
abbrev Arc := Nat × Nat × Nat
def ArcV (H : Hp) (x : V) (r : Arc) : Prop := ∃ b, x = .ref b ∧ H b = some (.tup [nV r.1, nV r.2.1, nV r.2.2])
theorem ArcV.mono {H H' : Hp} {x : V} {r : Arc} (h : ArcV H x r) (k : ∀ a xs, H a = some (.tup xs) → H' a = some (.tup xs)) : ArcV H' x r := by
  obtain ⟨b, e, f⟩ := h
  exact ⟨b, e, k _ _ f⟩
def NetOk (n : Nat) (as : List Arc) : Prop := 1 ≤ n ∧ n ≤ 7 ∧ as.length ≤ 49 ∧ (∀ a ∈ as, a.1 < a.2.1 ∧ a.2.1 < n) ∧ as.Pairwise (fun a b => a.1 < b.1 ∨ a.1 = b.1 ∧ a.2.1 < b.2.1)
def NetV (H : Hp) (v : V) (n : Nat) (as : List Arc) : Prop := ∃ a pa vs, v = .ref a ∧ H a = some (.tup [nV n, .ref pa]) ∧ H pa = some (.tup vs) ∧ LV (ArcV H) vs as
theorem NetV.mono {H H' : Hp} {v : V} {n : Nat} {as : List Arc} (h : NetV H v n as) (k : ∀ a xs, H a = some (.tup xs) → H' a = some (.tup xs)) : NetV H' v n as := by
  obtain ⟨a, pa, vs, e, h1, h2, h3⟩ := h
  exact ⟨a, pa, vs, e, k _ _ h1, k _ _ h2, h3.mono fun _ _ z => z.mono k⟩
theorem kpTup {d l : Addr} {H H' : Hp} (D : DI d l H) (k : Kp d H H') : ∀ a xs, H a = some (.tup xs) → H' a = some (.tup xs) := fun a xs e => by
  obtain ⟨n, ⟨ns, h1⟩, i, b, s, c, h0, h2⟩ := D
  exact k _ _ (fun z => by rw [z, h2] at e; cases e) e
section
variable {P : Program} {w : World} {K : PySem.W.Frag} {mg : Str → Option Value} {base : Heap}
def spNet : Sp := fun vs H Q _ => ∃ (d l : Addr), vs = [.ref d] ∧ DI d l H ∧ ∀ H' v n as, Kp d H H' → DI d l H' → NetV H' v n as → NetOk n as → Q v H'
theorem ok_net (T : Txt K mg) : FnOk P w K mg base CX0 2 T.a_law_net T.d_law_net ["_law_d"] spNet := by
  have G_law_draw : FnOk P w K mg base CX0 1 T.a_law_draw T.d_law_draw ["_law_d", "_law_many"] spDraw := ok_draw T
  refine T.D_law_net.F.ok sc_law_net (fun vs H Q E h => ?_) (fun cdv A outer s H vs Q E hr h => ?_)
  · obtain ⟨d, l, rfl, _⟩ := h
    rfl
  · obtain ⟨d, l, rfl, hD, q⟩ := h
    refine ⟨_, (pss_cons (ps_set (i := 1) sc_law_net.nd rfl (.inl rfl) (pe_op op_add pe_int (pe_call G_law_draw (hr.mono (by decide)) (by rfl) T.D_law_draw.G T.D_law_draw.F.kp T.D_law_draw.B .nil pass0 (pa_cons (pv 0) (pa_cons pe_int pa_nil)))))
      (pss_cons (ps_set (i := 2) sc_law_net.nd rfl (.inl rfl) (pe_lst pa_nil))
      (pss_cons (ps_for PassesOwn.never rfl (pi_range1 (by rfl) T.n_range (pa_cons (pv 1) pa_nil)) (pg_name (i := 3) sc_law_net.nd rfl (.inl rfl)) (pss_one (ps_for PassesOwn.never rfl (pi_range2 (by rfl) T.n_range (pa_cons (pe_op op_add (pv 3) pe_int) (pa_cons (pv 1) pa_nil))) (pg_name (i := 4) sc_law_net.nd rfl (.inl rfl)) (pss_one (ps_if (pt_cmpR op_gt (pe_call G_law_draw (hr.mono (by decide)) (by rfl) T.D_law_draw.G T.D_law_draw.F.kp T.D_law_draw.B .nil pass0 (pa_cons (pv 0) (pa_cons pe_int pa_nil))) pe_int (nomark _)) (pss_one (ps_expr (pe_bm PySem.F.plainAttrs_list PySem.F.slot_list_append PySem.F.type_list_append mt_append (pv 2) (pa_cons (pe_tup (pa_cons (pv 3) (pa_cons (pv 4) (pa_cons (pe_call G_law_draw (hr.mono (by decide)) (by rfl) T.D_law_draw.G T.D_law_draw.F.kp T.D_law_draw.B .nil pass0 (pa_cons (pv 0) (pa_cons pe_int pa_nil))) pa_nil)))) pa_nil)))) pss_nil)))))
      (pss_one (ps_ret (pe_tup (pa_cons (pv 1) (pa_cons (pe_callTy call_tuple_of (by rfl) T.n_tuple (by decide +kernel) (pa_cons (pv 2) pa_nil)) pa_nil)))))))), ?_⟩
    refine ⟨_, rfl, d, l, 7, rfl, hD, by decide, fun H1 r k1 D1 _ r2 => ?_⟩
    have ⟨r0, r7⟩ := r2 (by decide)
    obtain ⟨m, rfl⟩ : ∃ m : Nat, r = (m : Int) := ⟨r.toNat, by omega⟩
    refine ⟨_, _, rfl, rfl, ?_⟩
    have n7 : 1 + m ≤ 7 := by omega
    refine ⟨by show 0 ≤ sizeLine; decide, fun A nA => ?_⟩
    have dA := D1.nd nA
    have D2 := D1.new (o := .lst []) nA
    have kA := k1.new (o := .lst []) nA
    have nA0 : H A = none := by
      cases e : H A with
      | none => rfl
      | some o => rw [k1 _ _ dA.1 e] at nA; cases nA
    refine ⟨_, rfl, 1 + (m : Int), rfl, by omega, by omega, ?_⟩
    have en : ((1 : Int) + (m : Int)).toNat = 1 + m := by omega
    rw [en]
    refine for_it walk_range (fun i σ' H' => ∃ (vs : List V) (as : List Arc) (x3 x4 : Option V), σ' = [some (.ref d), some (nV (1 + m)), some (.ref A), x3, x4] ∧ Kp d H H' ∧ DI d l H' ∧ H' A = some (.lst vs) ∧ LV (ArcV H') vs as ∧ as.length ≤ 7 * i ∧ (∀ a ∈ as, a.1 < i ∧ a.1 < a.2.1 ∧ a.2.1 < 1 + m) ∧ as.Pairwise (fun a b => a.1 < b.1 ∨ a.1 = b.1 ∧ a.2.1 < b.2.1)) ⟨[], [], none, none, rfl, kA, D2, upd_same, LV.nil, Nat.le_refl _, (fun _ h => nomatch h), List.Pairwise.nil⟩ (fun _ _ _ _ _ => trivial) ?_ ?_
    · rintro i x σ' H2 H3 hi ⟨vs, as, x3, x4, rfl, k2, D2, eA, lv, ln, hb, pw⟩ ⟨rfl, hx⟩
      have hx : x = .int (i : Int) := by rw [hx]; show V.int (0 + (i : Int)) = _; rw [Int.zero_add]
      subst hx
      refine ⟨_, rfl, _, _, rfl, rfl, _, rfl, _, _, rfl, ⟨by omega, by omega, by omega, by omega⟩, ?_⟩
      have em : (((1 + m : Nat) : Int) - ((i : Int) + 1)).toNat = m - i := by omega
      rw [em]
      refine for_it walk_range (fun j σ' H' => ∃ (vs : List V) (as : List Arc) (x4 : Option V), σ' = [some (.ref d), some (nV (1 + m)), some (.ref A), some (.int (i : Int)), x4] ∧ Kp d H H' ∧ DI d l H' ∧ H' A = some (.lst vs) ∧ LV (ArcV H') vs as ∧ as.length ≤ 7 * i + j ∧ (∀ a ∈ as, (a.1 < i ∨ a.1 = i ∧ a.2.1 < i + 1 + j) ∧ a.1 < a.2.1 ∧ a.2.1 < 1 + m) ∧ as.Pairwise (fun a b => a.1 < b.1 ∨ a.1 = b.1 ∧ a.2.1 < b.2.1)) ⟨vs, as, x4, rfl, k2, D2, eA, lv, ln, fun a h => ⟨.inl (hb a h).1, (hb a h).2⟩, pw⟩ (fun _ _ _ _ _ => trivial) ?_ ?_
      · rintro j x σ' H4 H5 hj ⟨vs, as, x4, rfl, k3, D3, eA, lv, ln, hb, pw⟩ ⟨rfl, hx⟩
        have hx : x = .int ((i + 1 + j : Nat) : Int) := by
          rw [hx]
          show V.int ((i : Int) + 1 + (j : Int)) = _
          rw [show (i : Int) + 1 + (j : Int) = ((i + 1 + j : Nat) : Int) by omega]
        subst hx
        refine ⟨_, rfl, d, l, 4, rfl, D3, by decide, fun H6 r4 k4 D4 _ q4 => ?_⟩
        have ⟨q0, _⟩ := q4 (by decide)
        have eA4 := k4 _ _ dA.1 eA
        have lv4 := lv.mono fun x r z => ArcV.mono z (kpTup D3 k4)
        refine ⟨_, _, rfl, rfl, _, rfl, ite2 (fun _ => ?_) (fun _ => ?_)⟩
        · refine ⟨.ref A, rfl, .inl ⟨rfl, _, .inl (.inl eA4)⟩, _, rfl, _, rfl, ?_⟩
          refine ⟨_, rfl, d, l, 6, rfl, D4, by decide, fun H7 r5 k5 D5 _ q5 => ?_⟩
          have ⟨q50, _⟩ := q5 (by decide)
          obtain ⟨c, rfl⟩ : ∃ c : Nat, r5 = (c : Int) := ⟨r5.toNat, by omega⟩
          refine ⟨by show 3 ≤ sizeLine; decide, fun B nB => ?_⟩
          have eA5 := k5 _ _ dA.1 eA4
          have lv5 := lv4.mono fun x r z => ArcV.mono z (kpTup D4 k5)
          have k6 := ((k3.trans k4).trans k5).new (o := .tup [nV i, nV (i + 1 + j), nV c]) nB
          have D6 := D5.new (o := .tup [nV i, nV (i + 1 + j), nV c]) nB
          have nAB : A ≠ B := ne_of_none eA5 nB
          have eA6 : upd H7 B (.tup [nV i, nV (i + 1 + j), nV c]) A = some (.lst vs) := by rw [upd_ne nAB]; exact eA5
          have lv6 : LV (ArcV (upd H7 B (.tup [nV i, nV (i + 1 + j), nV c]))) vs as := lv5.mono fun x r z => ArcV.mono z fun a xs e => by rw [upd_ne (ne_of_none e nB)]; exact e
          have eB : upd H7 B (.tup [nV i, nV (i + 1 + j), nV c]) B = some (.tup [nV i, nV (i + 1 + j), nV c]) := upd_same
          refine ⟨A, _, _, rfl, rfl, eA6, szN (by rw [lv5.1]; omega), ?_⟩
          refine ⟨vs ++ [.ref B], as ++ [(i, i + 1 + j, c)], _, rfl, k6.mut nA0, D6.at dA.1 dA.2, upd_same, ?_, by rw [List.length_append]; show as.length + 1 ≤ _; omega, ?_, ?_⟩
          · refine (lv6.snoc (x := .ref B) (r := (i, i + 1 + j, c)) ⟨B, rfl, eB⟩).mono fun x r z => ArcV.mono z fun a xs e => ?_
            have n : a ≠ A := fun z => by rw [z, eA6] at e; cases e
            rw [upd_ne n]; exact e
          · intro a ha
            rcases List.mem_append.mp ha with h | h
            · have ⟨h1, h2, h3⟩ := hb a h
              exact ⟨by omega, h2, h3⟩
            · rw [List.mem_singleton.mp h]
              exact ⟨.inr ⟨rfl, by show i + 1 + j < _; omega⟩, by show i < i + 1 + j; omega, by show i + 1 + j < 1 + m; omega⟩
          · rw [List.pairwise_append]
            refine ⟨pw, List.pairwise_singleton _ _, fun a ha b hb2 => ?_⟩
            rw [List.mem_singleton.mp hb2]
            exact (hb a ha).1
        · refine ⟨vs, as, _, rfl, k3.trans k4, D4, eA4, lv4, by omega, fun a ha => ?_, pw⟩
          have ⟨h1, h2, h3⟩ := hb a ha
          exact ⟨by omega, h2, h3⟩
      · rintro σ' H4 ⟨vs, as, x4, rfl, k3, D3, eA, lv, ln, hb, pw⟩
        refine ⟨vs, as, _, _, rfl, k3, D3, eA, lv, by omega, fun a ha => ?_, pw⟩
        have ⟨h1, h2, h3⟩ := hb a ha
        exact ⟨by omega, h2, h3⟩
    · rintro σ' H2 ⟨vs, as, x3, x4, rfl, k2, D2, eA, lv, ln, hb, pw⟩
      refine ⟨_, rfl, _, rfl, A, vs, rfl, .inl ⟨SqL.of eA, fun B nB => ?_⟩⟩
      refine ⟨by show 2 ≤ sizeLine; decide, fun R nR => ?_⟩
      have e1 : upd H2 B (.tup vs) B = some (.tup vs) := upd_same
      refine q _ (.ref R) (1 + m) as ((k2.new nB).new nR) ((D2.new nB).new nR) ⟨R, B, vs, rfl, upd_same, by rw [upd_ne (ne_of_none e1 nR)]; exact e1, ?_⟩ ⟨by omega, n7, by omega, fun a ha => (hb a ha).2, pw⟩
      refine lv.mono fun x r z => ArcV.mono z fun a xs e => ?_
      have e2 : upd H2 B (.tup vs) a = some (.tup xs) := by rw [upd_ne (ne_of_none e nB)]; exact e
      rw [upd_ne (ne_of_none e2 nR)]; exact e2
end
end Vf

set_option Elab.async false
set_option linter.all false
set_option maxRecDepth 100000
set_option maxHeartbeats 4000000
namespace Vf
open PySem PySem.Spec PyProof.Rows L2 TL
def pg (ps : List (Option Int)) (i : Nat) : Option Int := ps.getD i none
theorem pg_at {ps : List (Option Int)} {i : Nat} (h : i < ps.length) : (ps.map oV)[i]? = some (oV (pg ps i)) := by
  unfold pg
  rw [List.getElem?_map, List.getElem?_eq_getElem h, List.getD_eq_getElem?_getD, List.getElem?_eq_getElem h]; rfl
theorem pg_last {ps : List (Option Int)} (h : 0 < ps.length) : atI (ps.map oV) (-1) = some (oV (pg ps (ps.length - 1))) := by
  have e := pg_at (ps := ps) (i := ps.length - 1) (by omega)
  have hl : (ps.map oV).length = ps.length := List.length_map _
  generalize oV (pg ps (ps.length - 1)) = v at e
  have e2 : ps.map oV = (ps.map oV).take (ps.length - 1) ++ [v] := by
    have h3 := List.take_append_drop (ps.length - 1) (ps.map oV)
    have h4 : (ps.map oV).drop (ps.length - 1) = [v] := by
      rw [List.drop_eq_getElem_cons (by omega)]
      have h5 := List.getElem?_eq_some_iff.mp e
      rw [h5.2, List.drop_eq_nil_of_le (by omega)]
    rw [h4] at h3
    exact h3.symm
  rw [e2]
  exact atI_last _ _
def arcBad (ps : List (Option Int)) (a : Arc) : Bool := match pg ps a.1 with
  | none => false
  | some x => match pg ps a.2.1 with
    | none => true
    | some y => decide (x + (a.2.2 : Int) < y)
def paperOk (n : Nat) (as : List Arc) (t : Option Int) (ps : List (Option Int)) : Bool :=
  decide (ps.length = n) && decide (pg ps 0 = some 0) && decide (pg ps (n - 1) = t) && as.all fun a => !arcBad ps a
theorem scal_o : ∀ a b : Option Int, scal (oV a) (oV b) = true
  | none, none => rfl
  | none, some _ => rfl
  | some _, none => rfl
  | some _, some _ => rfl
theorem bNT {p : Prop} [Decidable p] (h : p) : V.bl (!decide p) = V.bl false := by rw [decide_eq_true h]; rfl
theorem bNF {p : Prop} [Decidable p] (h : ¬ p) : V.bl (!decide p) = V.bl true := by rw [decide_eq_false h]; rfl
theorem judge_bad {n : Nat} {as : List Arc} {t : Option Int} {ps : List (Option Int)} (h : ¬ (ps.length = n ∧ pg ps 0 = some 0 ∧ pg ps (n - 1) = t)) : paperOk n as t ps = false := by
  unfold paperOk
  by_cases h1 : ps.length = n
  · by_cases h2 : pg ps 0 = some 0
    · have h3 : ¬ pg ps (n - 1) = t := fun h3 => h ⟨h1, h2, h3⟩
      rw [decide_eq_false h3, Bool.and_false]; rfl
    · rw [decide_eq_false h2, Bool.and_false]; rfl
  · rw [decide_eq_false h1]; rfl
theorem judge_good {n : Nat} {as : List Arc} {t : Option Int} {ps : List (Option Int)} (h1 : ps.length = n) (h2 : pg ps 0 = some 0) (h3 : pg ps (n - 1) = t) (h4 : ∀ (j : Nat) (a : Arc), as[j]? = some a → arcBad ps a = false) : paperOk n as t ps = true := by
  unfold paperOk
  rw [decide_eq_true h1, decide_eq_true h2, decide_eq_true h3]
  show (as.all fun a => !arcBad ps a) = true
  rw [List.all_eq_true]
  intro a ha
  obtain ⟨j, hj, e⟩ := List.mem_iff_getElem.mp ha
  rw [h4 j a (by rw [List.getElem?_eq_getElem hj, e])]; rfl
theorem judge_arc {n : Nat} {as : List Arc} {t : Option Int} {ps : List (Option Int)} {j : Nat} {a : Arc} (e : as[j]? = some a) (h : arcBad ps a = true) : paperOk n as t ps = false := by
  unfold paperOk
  have : (as.all fun a => !arcBad ps a) = false := by
    rw [List.all_eq_false]
    exact ⟨a, List.mem_of_getElem? e, by rw [h]; decide⟩
  rw [this, Bool.and_false]
section
variable {P : Program} {w : World} {K : PySem.W.Frag} {mg : Str → Option Value} {base : Heap}
def spJudge (K : PySem.W.Frag) : Sp := fun vs H Q _ => ∃ (v : V) (b : Addr) (n : Nat) (as : List Arc) (t : Option Int) (ps : List (Option Int)), vs = [v, oV t, .ref b] ∧ NetV H v n as ∧ NetOk n as ∧ SqT K H b (ps.map oV) ∧ Q (.bl (paperOk n as t ps)) H
theorem ok_judge (T : Txt K mg) : FnOk P w K mg base CX0 1 T.a_judge_bounds T.d_judge_bounds ["net", "total", "bounds"] (spJudge K) := by
  refine T.D_judge_bounds.F.ok sc_judge_bounds (fun vs H Q E h => ?_) (fun cdv A outer s H vs Q E hr h => ?_)
  · obtain ⟨v, b, n, as, t, ps, rfl, _⟩ := h
    rfl
  · obtain ⟨v, b, n, as, t, ps, rfl, ⟨na, pa, us, rfl, e1, e2, lv⟩, ok, eb, q⟩ := h
    refine ⟨_, (pss_cons (ps_asg (pv 0) (pg_tup (by rfl) (pgs_cons (pg_name (i := 3) sc_judge_bounds.nd rfl (.inl rfl)) (pgs_cons (pg_name (i := 4) sc_judge_bounds.nd rfl (.inl rfl)) pgs_nil))))
      (pss_cons (ps_if (PW.pt (pw_or (pt_cmpR op_ne (pe_callB call_len_seq (by rfl) T.n_len PySem.boot_len (pa_cons (pv 2) pa_nil)) (pv 3) (nomark _)) (pw_or (pt_cmpR op_ne (pe_ix ix_tup (pv 2) pe_int (fun _ _ => rfl)) pe_int (nomark _)) (pw_or1 (pt_cmpR op_ne (pe_ix ix_tup (pv 2) (pe_un un_neg pe_int) (fun _ _ => rfl)) (pv 1) (nomark _)))))) (pss_one (ps_ret pe_bl)) pss_nil)
      (pss_cons (ps_for PassesOwn.never rfl (pi_tup (pv 4)) (pg_tup (by rfl) (pgs_cons (pg_name (i := 5) sc_judge_bounds.nd rfl (.inl rfl)) (pgs_cons (pg_name (i := 6) sc_judge_bounds.nd rfl (.inl rfl)) (pgs_cons (pg_name (i := 7) sc_judge_bounds.nd rfl (.inl rfl)) pgs_nil)))) (pss_one (ps_if (PW.pt (pw_and (pt_cmpR op_notN (pe_ix ix_tup (pv 2) (pv 5) (fun _ _ => rfl)) pe_non (nomark _)) (pw_and1 (PW.pt (pw_or (pt_cmpR op_isN (pe_ix ix_tup (pv 2) (pv 6) (fun _ _ => rfl)) pe_non (nomark _)) (pw_or1 (pt_cmpR op_gt (pe_ix ix_tup (pv 2) (pv 6) (fun _ _ => rfl)) (pe_op op_add (pe_ix ix_tup (pv 2) (pv 5) (fun _ _ => rfl)) (pv 7)) (nomark _)))))))) (pss_one (ps_ret pe_bl)) pss_nil)))
      (pss_one (ps_ret pe_bl))))), ?_⟩
    refine ⟨_, rfl, na, _, rfl, SqT.of e1, rfl, _, _, rfl, _, _, rfl, rfl, ?_⟩
    refine ⟨_, rfl, b, _, rfl, .inr eb, ?_⟩
    have hn := ok.1
    have n7 := ok.2.1
    by_cases h1 : ps.length = n
    case neg =>
      refine ⟨_, rfl, rfl, true, bNF (fun z => h1 ?_), ?_⟩
      · have := V.int.inj z
        rw [List.length_map] at this
        exact Int.ofNat.inj this
      rw [judge_bad fun z => h1 z.1] at q
      exact q
    refine ⟨_, rfl, rfl, false, bNT (by rw [List.length_map, h1]; rfl), ?_⟩
    have g0 := pg_at (ps := ps) (i := 0) (by omega)
    refine ⟨_, rfl, b, _, _, _, rfl, rfl, eb, atI_nat g0, scal_o _ (some 0), ?_⟩
    by_cases h2 : pg ps 0 = some 0
    case neg =>
      refine ⟨true, bNF (fun z => h2 (oV_inj (b := some 0) z)), ?_⟩
      rw [judge_bad fun z => h2 z.2.1] at q
      exact q
    refine ⟨false, bNT (by rw [h2]; rfl), ?_⟩
    refine ⟨_, rfl, 1, rfl, b, _, -1, _, rfl, rfl, eb, pg_last (by omega), _, rfl, scal_o _ _, ?_⟩
    by_cases h3 : pg ps (n - 1) = t
    case neg =>
      refine ⟨true, bNF (fun z => h3 (by rw [h1] at z; exact oV_inj z)), ?_⟩
      rw [judge_bad fun z => h3 z.2.2] at q
      exact q
    refine ⟨false, bNT (by rw [h1, h3]), ?_⟩
    refine ⟨_, rfl, pa, rfl, ⟨us, SqT.of e2⟩, ?_⟩
    refine for_it (walk_tup (K := K) (a := pa) (xs := us)) (fun i σ' H' => H' = H ∧ (∀ (j : Nat) (a : Arc), j < i → as[j]? = some a → arcBad ps a = false) ∧ ∃ (x5 x6 x7 : Option V), σ' = [some (.ref na), some (oV t), some (.ref b), some (nV n), some (.ref pa), x5, x6, x7]) ⟨rfl, fun j a h => absurd h (Nat.not_lt_zero _), none, none, none, rfl⟩ ?_ ?_ ?_
    · rintro i σ' H' _ ⟨rfl, _⟩
      exact SqT.of e2
    · rintro i x σ' H2 H3 hi ⟨rfl, hb, x5, x6, x7, rfl⟩ ⟨rfl, hx⟩
      obtain ⟨r, hr, c, rfl, ec⟩ := lv.at hx
      have hm := ok.2.2.2.1 r (List.mem_of_getElem? hr)
      refine ⟨c, _, rfl, SqT.of ec, rfl, _, _, rfl, _, _, rfl, _, _, rfl, rfl, ?_⟩
      have gt := pg_at (ps := ps) (i := r.1) (by omega)
      have gh := pg_at (ps := ps) (i := r.2.1) (by omega)
      refine ⟨_, rfl, _, rfl, b, _, _, _, rfl, rfl, eb, atI_nat gt, rfl, ?_⟩
      have nxt : arcBad ps r = false → ∀ (j : Nat) (a : Arc), j < i + 1 → as[j]? = some a → arcBad ps a = false := by
        intro h0 j a hj ea
        by_cases hji : j < i
        · exact hb j a hji ea
        · have : j = i := by omega
          subst this
          rw [hr] at ea
          rw [← Option.some.inj ea]; exact h0
      cases h4 : pg ps r.1 with
      | none =>
        exact ⟨false, bNT rfl, rfl, nxt (by unfold arcBad; rw [h4]), _, _, _, rfl⟩
      | some x =>
        rw [h4] at gt
        refine ⟨true, bNF (fun z => by cases z), ?_⟩
        refine ⟨_, rfl, _, rfl, b, _, _, _, rfl, rfl, eb, atI_nat gh, rfl, ?_⟩
        cases h5 : pg ps r.2.1 with
        | none =>
          rw [judge_arc hr (by unfold arcBad; rw [h4, h5])] at q
          exact ⟨true, bTr rfl, q⟩
        | some y =>
          rw [h5] at gh
          refine ⟨false, bFa (fun z => by cases z), ?_⟩
          refine ⟨_, rfl, _, rfl, b, _, _, _, rfl, rfl, eb, atI_nat gh, _, rfl, _, rfl, b, _, _, _, rfl, rfl, eb, atI_nat gt, _, rfl, _, _, rfl, rfl, _, _, rfl, rfl, ?_⟩
          by_cases h6 : x + (r.2.2 : Int) < y
          · rw [judge_arc hr (by unfold arcBad; rw [h4, h5]; exact decide_eq_true h6)] at q
            exact ⟨true, bTr h6, q⟩
          · exact ⟨false, bFa h6, rfl, nxt (by unfold arcBad; rw [h4, h5]; exact decide_eq_false h6), _, _, _, rfl⟩
    · rintro σ' H' ⟨rfl, hb, x5, x6, x7, rfl⟩
      rw [judge_good h1 h2 h3 fun j a e => hb j a (by rw [lv.1]; exact (List.getElem?_eq_some_iff.mp e).1) e] at q
      exact q
theorem ok_is_paper (T : Txt K mg) : FnOk P w K mg base CX0 1 T.a_law_is_paper T.d_law_is_paper ["_law_net_here", "_law_total", "_law_paper"] (spJudge K) := by
  refine T.D_law_is_paper.F.ok sc_law_is_paper (fun vs H Q E h => ?_) (fun cdv A outer s H vs Q E hr h => ?_)
  · obtain ⟨v, b, n, as, t, ps, rfl, _⟩ := h
    rfl
  · obtain ⟨v, b, n, as, t, ps, rfl, ⟨na, pa, us, rfl, e1, e2, lv⟩, ok, eb, q⟩ := h
    refine ⟨_, (pss_cons (ps_if (PW.pt (pw_or (pt_cmpR op_ne (pe_callB call_len_seq (by rfl) T.n_len PySem.boot_len (pa_cons (pv 2) pa_nil)) (pe_ix ix_tup (pv 0) pe_int (fun _ _ => rfl)) (nomark _)) (pw_or (pt_cmpR op_isN (pe_ix ix_tup (pv 2) pe_int (fun _ _ => rfl)) pe_non (nomark _)) (pw_or (pt_cmpR op_ne (pe_ix ix_tup (pv 2) pe_int (fun _ _ => rfl)) pe_int (nomark _)) (pw_or1 (pt_cmpR op_ne (pe_ix ix_tup (pv 2) (pe_op op_sub (pe_ix ix_tup (pv 0) pe_int (fun _ _ => rfl)) pe_int) (fun _ _ => rfl)) (pv 1) (nomark _))))))) (pss_one (ps_ret pe_bl)) pss_nil)
      (pss_cons (ps_for PassesOwn.never rfl (pi_tup (pe_ix ix_tup (pv 0) pe_int (fun _ _ => rfl))) (pg_tup (by rfl) (pgs_cons (pg_name (i := 3) sc_law_is_paper.nd rfl (.inl rfl)) (pgs_cons (pg_name (i := 4) sc_law_is_paper.nd rfl (.inl rfl)) (pgs_cons (pg_name (i := 5) sc_law_is_paper.nd rfl (.inl rfl)) pgs_nil)))) (pss_one (ps_if (PW.pt (pw_and (pt_cmpR op_notN (pe_ix ix_tup (pv 2) (pv 3) (fun _ _ => rfl)) pe_non (nomark _)) (pw_and1 (PW.pt (pw_or (pt_cmpR op_isN (pe_ix ix_tup (pv 2) (pv 4) (fun _ _ => rfl)) pe_non (nomark _)) (pw_or1 (pt_cmpR op_gt (pe_ix ix_tup (pv 2) (pv 4) (fun _ _ => rfl)) (pe_op op_add (pe_ix ix_tup (pv 2) (pv 3) (fun _ _ => rfl)) (pv 5)) (nomark _)))))))) (pss_one (ps_ret pe_bl)) pss_nil)))
      (pss_one (ps_ret pe_bl)))), ?_⟩
    refine ⟨_, rfl, b, _, rfl, .inr eb, _, rfl, na, _, 0, _, rfl, rfl, SqT.of e1, rfl, rfl, ?_⟩
    have hn := ok.1
    have n7 := ok.2.1
    by_cases h1 : ps.length = n
    case neg =>
      refine ⟨true, bNF (fun z => h1 ?_), ?_⟩
      · have := V.int.inj z
        rw [List.length_map] at this
        exact Int.ofNat.inj this
      rw [judge_bad fun z => h1 z.1] at q
      exact q
    refine ⟨false, bNT (by rw [List.length_map, h1]; rfl), ?_⟩
    have g0 := pg_at (ps := ps) (i := 0) (by omega)
    refine ⟨_, rfl, b, _, _, _, rfl, rfl, eb, atI_nat g0, rfl, ?_⟩
    cases h2 : pg ps 0 with
    | none =>
      refine ⟨true, bTr rfl, ?_⟩
      rw [judge_bad fun z => by rw [h2] at z; cases z.2.1] at q
      exact q
    | some x0 =>
    rw [h2] at g0
    refine ⟨false, bFa (fun z => by cases z), ?_⟩
    refine ⟨_, rfl, b, _, _, _, rfl, rfl, eb, atI_nat g0, rfl, ?_⟩
    by_cases h2b : x0 = 0
    case neg =>
      refine ⟨true, bNF (fun z => h2b (V.int.inj z)), ?_⟩
      rw [judge_bad fun z => h2b (by have := z.2.1; rw [h2] at this; exact Option.some.inj this)] at q
      exact q
    subst h2b
    refine ⟨false, bNT rfl, ?_⟩
    have gl := pg_at (ps := ps) (i := n - 1) (by omega)
    have en : ((n : Nat) : Int) - 1 = ((n - 1 : Nat) : Int) := by omega
    refine ⟨_, rfl, _, rfl, na, _, 0, _, rfl, rfl, SqT.of e1, rfl, _, _, rfl, rfl, b, _, _, _, rfl, rfl, eb, by rw [en]; exact atI_nat gl, _, rfl, scal_o _ _, ?_⟩
    by_cases h3 : pg ps (n - 1) = t
    case neg =>
      refine ⟨true, bNF (fun z => h3 (oV_inj z)), ?_⟩
      rw [judge_bad fun z => h3 z.2.2] at q
      exact q
    refine ⟨false, bNT (by rw [h3]), ?_⟩
    refine ⟨_, rfl, na, _, 1, _, rfl, rfl, SqT.of e1, rfl, pa, rfl, ⟨us, SqT.of e2⟩, ?_⟩
    refine for_it (walk_tup (K := K) (a := pa) (xs := us)) (fun i σ' H' => H' = H ∧ (∀ (j : Nat) (a : Arc), j < i → as[j]? = some a → arcBad ps a = false) ∧ ∃ (x5 x6 x7 : Option V), σ' = [some (.ref na), some (oV t), some (.ref b), x5, x6, x7]) ⟨rfl, fun j a h => absurd h (Nat.not_lt_zero _), none, none, none, rfl⟩ ?_ ?_ ?_
    · rintro i σ' H' _ ⟨rfl, _⟩
      exact SqT.of e2
    · rintro i x σ' H2 H3 hi ⟨rfl, hb, x5, x6, x7, rfl⟩ ⟨rfl, hx⟩
      obtain ⟨r, hr, c, rfl, ec⟩ := lv.at hx
      have hm := ok.2.2.2.1 r (List.mem_of_getElem? hr)
      refine ⟨c, _, rfl, SqT.of ec, rfl, _, _, rfl, _, _, rfl, _, _, rfl, rfl, ?_⟩
      have gt := pg_at (ps := ps) (i := r.1) (by omega)
      have gh := pg_at (ps := ps) (i := r.2.1) (by omega)
      refine ⟨_, rfl, _, rfl, b, _, _, _, rfl, rfl, eb, atI_nat gt, rfl, ?_⟩
      have nxt : arcBad ps r = false → ∀ (j : Nat) (a : Arc), j < i + 1 → as[j]? = some a → arcBad ps a = false := by
        intro h0 j a hj ea
        by_cases hji : j < i
        · exact hb j a hji ea
        · have : j = i := by omega
          subst this
          rw [hr] at ea
          rw [← Option.some.inj ea]; exact h0
      cases h4 : pg ps r.1 with
      | none =>
        exact ⟨false, bNT rfl, rfl, nxt (by unfold arcBad; rw [h4]), _, _, _, rfl⟩
      | some x =>
        rw [h4] at gt
        refine ⟨true, bNF (fun z => by cases z), ?_⟩
        refine ⟨_, rfl, _, rfl, b, _, _, _, rfl, rfl, eb, atI_nat gh, rfl, ?_⟩
        cases h5 : pg ps r.2.1 with
        | none =>
          rw [judge_arc hr (by unfold arcBad; rw [h4, h5])] at q
          exact ⟨true, bTr rfl, q⟩
        | some y =>
          rw [h5] at gh
          refine ⟨false, bFa (fun z => by cases z), ?_⟩
          refine ⟨_, rfl, _, rfl, b, _, _, _, rfl, rfl, eb, atI_nat gh, _, rfl, _, rfl, b, _, _, _, rfl, rfl, eb, atI_nat gt, _, rfl, _, _, rfl, rfl, _, _, rfl, rfl, ?_⟩
          by_cases h6 : x + (r.2.2 : Int) < y
          · rw [judge_arc hr (by unfold arcBad; rw [h4, h5]; exact decide_eq_true h6)] at q
            exact ⟨true, bTr h6, q⟩
          · exact ⟨false, bFa h6, rfl, nxt (by unfold arcBad; rw [h4, h5]; exact decide_eq_false h6), _, _, _, rfl⟩
    · rintro σ' H' ⟨rfl, hb, x5, x6, x7, rfl⟩
      rw [judge_good h1 h2 h3 fun j a e => hb j a (by rw [lv.1]; exact (List.getElem?_eq_some_iff.mp e).1) e] at q
      exact q
end
end Vf

set_option Elab.async false
set_option linter.all false
set_option maxRecDepth 100000
set_option maxHeartbeats 4000000
namespace Vf
open PySem PySem.Spec PyProof.Rows L2 TL
theorem pg_set {ps : List (Option Int)} {h : Nat} {v : Option Int} (hl : h < ps.length) (i : Nat) : pg (ps.set h v) i = if i = h then v else pg ps i := by
  unfold pg
  rw [List.getD_eq_getElem?_getD, List.getD_eq_getElem?_getD, List.getElem?_set]
  by_cases e : h = i
  · subst e
    rw [if_pos rfl, if_pos rfl, if_pos hl]; rfl
  · rw [if_neg e, if_neg (fun z => e z.symm)]
theorem map_set (ps : List (Option Int)) (h : Nat) (v : Option Int) : (ps.map oV).set h (oV v) = (ps.set h v).map oV := by
  rw [List.map_set]
theorem ixN_nat {n j : Nat} (h : j < n) : ixN n (j : Int) = some j := by
  unfold ixN
  rw [if_pos (by omega), if_pos (by omega)]; simp
section
variable {P : Program} {w : World} {K : PySem.W.Frag} {mg : Str → Option Value} {base : Heap}
def spRight : Sp := fun vs H Q _ => ∃ (v : V) (n : Nat) (as : List Arc), vs = [v] ∧ NetV H v n as ∧ NetOk n as ∧ ∀ H' L ps, Same H H' → H L = none → H' L = some (.lst (ps.map oV)) → ps.length = n → pg ps 0 = some 0 → (∀ a ∈ as, arcBad ps a = false) → Q (.ref L) H'
theorem ok_right (T : Txt K mg) : FnOk P w K mg base CX0 1 T.a_law_right_bounds T.d_law_right_bounds ["_law_net_here"] spRight := by
  refine T.D_law_right_bounds.F.ok sc_law_right_bounds (fun vs H Q E h => ?_) (fun cdv A outer s H vs Q E hr h => ?_)
  · obtain ⟨v, n, as, rfl, _⟩ := h
    rfl
  · obtain ⟨v, n, as, rfl, ⟨na, pa, us, rfl, e1, e2, lv⟩, ok, q⟩ := h
    refine ⟨_, (pss_cons (ps_set (i := 1) sc_law_right_bounds.nd rfl (.inl rfl) (pe_op op_rep (pe_lst (pa_cons pe_non pa_nil)) (pe_ix ix_tup (pv 0) pe_int (fun _ _ => rfl))))
      (pss_cons (ps_asg pe_int (pg_sub (pv 1) pe_int set_list))
      (pss_cons (ps_for PassesOwn.never rfl (pi_range2 (by rfl) T.n_range (pa_cons pe_int (pa_cons (pe_ix ix_tup (pv 0) pe_int (fun _ _ => rfl)) pa_nil))) (pg_name (i := 2) sc_law_right_bounds.nd rfl (.inl rfl)) (pss_one (ps_for PassesOwn.never rfl (pi_tup (pe_ix ix_tup (pv 0) pe_int (fun _ _ => rfl))) (pg_tup (by rfl) (pgs_cons (pg_name (i := 3) sc_law_right_bounds.nd rfl (.inl rfl)) (pgs_cons (pg_name (i := 4) sc_law_right_bounds.nd rfl (.inl rfl)) (pgs_cons (pg_name (i := 5) sc_law_right_bounds.nd rfl (.inl rfl)) pgs_nil)))) (pss_one (ps_if (PW.pt (pw_and (pt_cmpR op_eq (pv 4) (pv 2) (nomark _)) (pw_and1 (pt_cmpR op_notN (pe_ix ix_list (pv 1) (pv 3) (fun _ _ => rfl)) pe_non (nomark _))))) (pss_one (ps_if (PW.pt (pw_or (pt_cmpR op_isN (pe_ix ix_list (pv 1) (pv 2) (fun _ _ => rfl)) pe_non (nomark _)) (pw_or1 (pt_cmpR op_lt (pe_op op_add (pe_ix ix_list (pv 1) (pv 3) (fun _ _ => rfl)) (pv 5)) (pe_ix ix_list (pv 1) (pv 2) (fun _ _ => rfl)) (nomark _))))) (pss_one (ps_asg (pe_op op_add (pe_ix ix_list (pv 1) (pv 3) (fun _ _ => rfl)) (pv 5)) (pg_sub (pv 1) (pv 2) set_list))) pss_nil)) pss_nil)))))
      (pss_one (ps_ret (pv 1)))))), ?_⟩
    refine ⟨by show 1 ≤ sizeLine; decide, fun L0 n0 => ?_⟩
    refine ⟨_, rfl, na, _, 0, _, rfl, rfl, SqT.of (by rw [upd_ne (ne_of_none e1 n0)]; exact e1), rfl, ?_⟩
    have hn := ok.1
    have n7 := ok.2.1
    have s0 := same_upd (o := .lst [V.non]) (Same.refl H) n0
    refine ⟨L0, _, [V.non], rfl, rfl, upd_same, by omega, by omega, by simp; exact Nat.le_of_lt (szN (by omega)), fun L nL => ?_⟩
    have eR : (List.replicate ((n : Nat) : Int).toNat [V.non]).flatten = (List.replicate n (none : Option Int)).map oV := by
      rw [Int.toNat_natCast, List.map_replicate]
      clear hn n7 q e1 ok
      induction n with
      | zero => rfl
      | succ n ih => rw [List.replicate_succ, List.flatten_cons, ih]; rfl
    rw [show (nV n) = V.int (n : Int) from rfl] at e1
    have s1 := same_upd (o := .lst (List.replicate ((n : Nat) : Int).toNat [V.non]).flatten) (Same.refl _) nL
    have sA := s0.trans s1
    have eL : upd (upd H L0 (.lst [V.non])) L (.lst (List.replicate ((n : Nat) : Int).toNat [V.non]).flatten) L = some (.lst ((List.replicate n (none : Option Int)).map oV)) := by rw [← eR]; exact upd_same
    have nL0 : H L = none := by
      cases e : H L with
      | none => rfl
      | some o => rw [s0 _ _ e] at nL; cases nL
    generalize upd (upd H L0 (.lst [V.non])) L (.lst (List.replicate ((n : Nat) : Int).toNat [V.non]).flatten) = H1 at sA eL
    refine ⟨_, rfl, L, _, 0, 0, rfl, rfl, eL, ixN_nat (j := 0) (by rw [List.length_map, List.length_replicate]; omega), ?_⟩
    have eM : upd H1 L (.lst (((List.replicate n (none : Option Int)).map oV).set 0 (V.int 0))) L = some (.lst (((List.replicate n (none : Option Int)).set 0 (some 0)).map oV)) := by
      rw [upd_same]
      exact congrArg (fun z => some (HO.lst z)) (map_set (List.replicate n none) 0 (some 0))
    have sB : Same H (upd H1 L (.lst (((List.replicate n (none : Option Int)).map oV).set 0 (V.int 0)))) := fun b o e => by
      rw [upd_ne (ne_of_none e nL0)]; exact sA _ _ e
    generalize upd H1 L (.lst (((List.replicate n (none : Option Int)).map oV).set 0 (V.int 0))) = H2 at sB eM
    have p0 : pg ((List.replicate n (none : Option Int)).set 0 (some 0)) 0 = some 0 := by rw [pg_set (by rw [List.length_replicate]; omega), if_pos rfl]
    have l0 : ((List.replicate n (none : Option Int)).set 0 (some 0)).length = n := by rw [List.length_set, List.length_replicate]
    generalize (List.replicate n (none : Option Int)).set 0 (some 0) = ps0 at eM p0 l0
    refine ⟨_, rfl, na, _, 0, _, rfl, rfl, SqT.of (sB _ _ e1), rfl, _, _, rfl, ⟨by decide, by decide, by omega, by omega⟩, ?_⟩
    have en : (((n : Nat) : Int) - 1).toNat = n - 1 := by omega
    rw [en]
    refine for_it walk_range (fun i σ' H' => ∃ (ps : List (Option Int)) (x2 x3 x4 x5 : Option V), σ' = [some (.ref na), some (.ref L), x2, x3, x4, x5] ∧ Same H H' ∧ H' L = some (.lst (ps.map oV)) ∧ ps.length = n ∧ pg ps 0 = some 0 ∧ ∀ a ∈ as, a.2.1 < 1 + i → arcBad ps a = false) ⟨ps0, none, none, none, none, rfl, sB, eM, l0, p0, fun a ha h => ?_⟩ (fun _ _ _ _ _ => trivial) ?_ ?_
    · have := (ok.2.2.2.1 a ha).1
      omega
    · rintro i x σ' H3 H4 hi ⟨ps, x2, x3, x4, x5, rfl, k3, eP, lp, pz, hb⟩ ⟨rfl, hx⟩
      have hx : x = .int ((1 + i : Nat) : Int) := by rw [hx]; rfl
      subst hx
      refine ⟨_, rfl, na, _, 1, _, rfl, rfl, SqT.of (k3 _ _ e1), rfl, pa, rfl, ⟨us, SqT.of (k3 _ _ e2)⟩, ?_⟩
      refine for_it (walk_tup (K := K) (a := pa) (xs := us)) (fun j σ' H' => ∃ (ps : List (Option Int)) (x3 x4 x5 : Option V), σ' = [some (.ref na), some (.ref L), some (nV (1 + i)), x3, x4, x5] ∧ Same H H' ∧ H' L = some (.lst (ps.map oV)) ∧ ps.length = n ∧ pg ps 0 = some 0 ∧ (∀ a ∈ as, a.2.1 < 1 + i → arcBad ps a = false) ∧ ∀ (k : Nat) (a : Arc), k < j → as[k]? = some a → a.2.1 = 1 + i → arcBad ps a = false) ⟨ps, x3, x4, x5, rfl, k3, eP, lp, pz, hb, fun k a h => absurd h (Nat.not_lt_zero _)⟩ ?_ ?_ ?_
      · rintro j σ' H' _ ⟨_, _, _, _, _, k, _⟩
        exact SqT.of (k _ _ e2)
      · rintro j x σ' H5 H6 hj ⟨ps, x3, x4, x5, rfl, k5, eP, lp, pz, hb, hc⟩ ⟨rfl, hx⟩
        obtain ⟨r, hr, c, rfl, ec⟩ := lv.at hx
        have hm := ok.2.2.2.1 r (List.mem_of_getElem? hr)
        have nxt : ∀ ps' : List (Option Int), arcBad ps' r = false ∨ r.2.1 ≠ 1 + i → (∀ (k : Nat) (a : Arc), k < j → as[k]? = some a → a.2.1 = 1 + i → arcBad ps' a = false) → ∀ (k : Nat) (a : Arc), k < j + 1 → as[k]? = some a → a.2.1 = 1 + i → arcBad ps' a = false := by
          intro ps' h0 hc k a hk ea h1
          by_cases hkj : k < j
          · exact hc k a hkj ea h1
          · have : k = j := by omega
            subst this
            rw [hr] at ea
            have := Option.some.inj ea
            subst this
            rcases h0 with h | h
            · exact h
            · exact absurd h1 h
        refine ⟨c, _, rfl, SqT.of (k5 _ _ ec), rfl, _, _, rfl, _, _, rfl, _, _, rfl, rfl, ?_⟩
        refine ⟨_, rfl, _, rfl, rfl, ?_⟩
        by_cases h1 : r.2.1 = 1 + i
        case neg =>
          refine ⟨false, bFa (fun z => h1 (Int.ofNat.inj (V.int.inj z))), ?_⟩
          exact ⟨ps, _, _, _, rfl, k5, eP, lp, pz, hb, nxt ps (.inr h1) hc⟩
        refine ⟨true, bTr (by rw [h1]), ?_⟩
        have gt := pg_at (ps := ps) (i := r.1) (by omega)
        have gh := pg_at (ps := ps) (i := 1 + i) (by omega)
        refine ⟨_, rfl, _, rfl, L, _, _, _, rfl, rfl, SqL.of eP, atI_nat gt, rfl, ?_⟩
        cases h4 : pg ps r.1 with
        | none =>
          refine ⟨false, bNT rfl, ?_⟩
          exact ⟨ps, _, _, _, rfl, k5, eP, lp, pz, hb, nxt ps (.inl (by unfold arcBad; rw [h4])) hc⟩
        | some x =>
        rw [h4] at gt
        refine ⟨true, bNF (fun z => by cases z), ?_⟩
        refine ⟨_, rfl, _, rfl, L, _, _, _, rfl, rfl, SqL.of eP, atI_nat gh, rfl, ?_⟩
        have put : (∀ y, pg ps (1 + i) = some y → x + (r.2.2 : Int) ≤ y) → ∃ ps' : List (Option Int), ps' = ps.set (1 + i) (some (x + (r.2.2 : Int))) ∧ ps'.length = n ∧ pg ps' 0 = some 0 ∧ (∀ a ∈ as, a.2.1 < 1 + i → arcBad ps' a = false) ∧ ∀ (k : Nat) (a : Arc), k < j + 1 → as[k]? = some a → a.2.1 = 1 + i → arcBad ps' a = false := by
          intro hy
          have ps_ := pg_set (ps := ps) (h := 1 + i) (v := some (x + (r.2.2 : Int))) (by omega)
          refine ⟨_, rfl, by rw [List.length_set]; exact lp, by rw [ps_, if_neg (by omega)]; exact pz, fun a ha h => ?_, nxt _ (.inl ?_) fun k a hk ea h => ?_⟩
          · have h2 := (ok.2.2.2.1 a ha).1
            have h3 := hb a ha h
            unfold arcBad at h3 ⊢
            rw [ps_, ps_, if_neg (by omega), if_neg (by omega)]
            exact h3
          · unfold arcBad
            rw [ps_, ps_, if_neg (by omega), if_pos h1, h4]
            exact decide_eq_false (by omega)
          · have h2 := (ok.2.2.2.1 a (List.mem_of_getElem? ea)).1
            have h3 := hc k a hk ea h
            unfold arcBad at h3 ⊢
            rw [ps_, ps_, if_neg (by omega), if_pos h]
            rw [h] at h3
            cases h5 : pg ps a.1 with
            | none => rfl
            | some x' =>
              rw [h5] at h3
              cases h6 : pg ps (1 + i) with
              | none => rw [h6] at h3; cases h3
              | some y =>
                rw [h6] at h3
                have := of_decide_eq_false h3
                have := hy y h6
                exact decide_eq_false (by omega)
        have setL : ixN (ps.map oV).length ((1 + i : Nat) : Int) = some (1 + i) := ixN_nat (by rw [List.length_map]; omega)
        have fin : ∀ ps' : List (Option Int), ps' = ps.set (1 + i) (some (x + (r.2.2 : Int))) → Same H (upd H6 L (.lst ((ps.map oV).set (1 + i) (V.int (x + (r.2.2 : Int)))))) ∧ upd H6 L (.lst ((ps.map oV).set (1 + i) (V.int (x + (r.2.2 : Int))))) L = some (.lst (ps'.map oV)) := by
          rintro _ rfl
          refine ⟨fun b o e => by rw [upd_ne (ne_of_none e nL0)]; exact k5 _ _ e, ?_⟩
          rw [upd_same]
          exact congrArg (fun z => some (HO.lst z)) (map_set ps (1 + i) (some (x + (r.2.2 : Int))))
        cases h5 : pg ps (1 + i) with
        | none =>
          refine ⟨true, bTr rfl, ?_⟩
          obtain ⟨ps', e', l', z', b', c'⟩ := put fun y hy => by rw [h5] at hy; cases hy
          have ⟨f1, f2⟩ := fin ps' e'
          refine ⟨_, rfl, _, rfl, L, _, _, _, rfl, rfl, SqL.of eP, atI_nat gt, _, rfl, _, _, rfl, rfl, _, rfl, _, rfl, L, _, _, _, rfl, rfl, eP, setL, ?_⟩
          exact ⟨ps', _, _, _, rfl, f1, f2, l', z', b', c'⟩
        | some y =>
          rw [h5] at gh
          refine ⟨false, bFa (fun z => by cases z), ?_⟩
          refine ⟨_, rfl, _, rfl, L, _, _, _, rfl, rfl, SqL.of eP, atI_nat gt, _, rfl, _, _, rfl, rfl, _, rfl, _, rfl, L, _, _, _, rfl, rfl, SqL.of eP, atI_nat gh, _, _, rfl, rfl, ?_⟩
          by_cases h6 : x + (r.2.2 : Int) < y
          · refine ⟨true, bTr h6, ?_⟩
            obtain ⟨ps', e', l', z', b', c'⟩ := put fun y' hy => by rw [h5] at hy; rw [← Option.some.inj hy]; omega
            have ⟨f1, f2⟩ := fin ps' e'
            refine ⟨_, rfl, _, rfl, L, _, _, _, rfl, rfl, SqL.of eP, atI_nat gt, _, rfl, _, _, rfl, rfl, _, rfl, _, rfl, L, _, _, _, rfl, rfl, eP, setL, ?_⟩
            exact ⟨ps', _, _, _, rfl, f1, f2, l', z', b', c'⟩
          · refine ⟨false, bFa h6, ?_⟩
            exact ⟨ps, _, _, _, rfl, k5, eP, lp, pz, hb, nxt ps (.inl (by unfold arcBad; rw [h1, h4, h5]; exact decide_eq_false (by omega))) hc⟩
      · rintro σ' H5 ⟨ps, x3, x4, x5, rfl, k5, eP, lp, pz, hb, hc⟩
        refine ⟨ps, _, _, _, _, rfl, k5, eP, lp, pz, fun a ha h => ?_⟩
        by_cases h2 : a.2.1 < 1 + i
        · exact hb a ha h2
        · obtain ⟨k, hk, e⟩ := List.mem_iff_getElem.mp ha
          exact hc k a (by rw [lv.1]; exact hk) (by rw [List.getElem?_eq_getElem hk, e]) (by omega)
    · rintro σ' H3 ⟨ps, x2, x3, x4, x5, rfl, k3, eP, lp, pz, hb⟩
      refine ⟨_, rfl, q H3 L ps k3 nL0 eP lp pz fun a ha => hb a ha ?_⟩
      have := (ok.2.2.2.1 a ha).2
      omega
end
end Vf

set_option Elab.async false
set_option linter.all false
set_option maxRecDepth 100000
set_option maxHeartbeats 4000000
namespace Vf
open PySem PySem.Spec PyProof.Rows L2 TL
def SpI (d l L : Addr) (H : Hp) (kind : Int) (a b : Nat) (σ' : L2.St) (H' : Hp) : Prop := ∃ (R : Addr) (rs : List (Option Int)) (x5 x6 : Option V), σ' = [some (.ref d), some (.ref L), some (.ref R), some (.int kind), some (.int (a : Int)), x5, x6] ∧ Kp d H H' ∧ DI d l H' ∧ H R = none ∧ R ≠ d ∧ R ≠ l ∧ H' R = some (.lst (rs.map oV)) ∧ a < rs.length ∧ rs.length ≤ b
theorem none_kp {d : Addr} {H H' : Hp} {b : Addr} (k : Kp d H H') (n : b ≠ d) (h : H' b = none) : H b = none := by
  cases e : H b with
  | none => rfl
  | some o => rw [k _ _ n e] at h; cases h
theorem SpI.put {d l L R : Addr} {H H' : Hp} {kind : Int} {a b : Nat} {rs : List (Option Int)} {x5 x6 : Option V} (v : Option Int) (k4 : Kp d H H') (D4 : DI d l H') (nR : H R = none) (d1 : R ≠ d) (d2 : R ≠ l) (ha : a < rs.length) (pl : rs.length ≤ b) :
    SpI d l L H kind a b [some (.ref d), some (.ref L), some (.ref R), some (.int kind), some (.int (a : Int)), x5, x6] (upd H' R (.lst ((rs.map oV).set a (oV v)))) :=
  ⟨R, rs.set a v, x5, x6, rfl, k4.mut nR, D4.at d1 d2, nR, d1, d2, by rw [upd_same, map_set], by rw [List.length_set]; exact ha, by rw [List.length_set]; exact pl⟩
theorem pg_some {rs : List (Option Int)} {a : Nat} (ha : a < rs.length) : (rs.map oV)[a]? = some (oV (pg rs a)) := pg_at ha
theorem erase_map : ∀ (rs : List (Option Int)) (a : Nat), (rs.map oV).eraseIdx a = (rs.eraseIdx a).map oV
  | [], _ => rfl
  | _ :: _, 0 => rfl
  | x :: r, a + 1 => congrArg (oV x :: ·) (erase_map r a)
section
variable {P : Program} {w : World} {K : PySem.W.Frag} {mg : Str → Option Value} {base : Heap}
def spSpoilt : Sp := fun vs H Q _ => ∃ (d l L : Addr) (ps : List (Option Int)), vs = [.ref d, .ref L] ∧ DI d l H ∧ L ≠ d ∧ H L = some (.lst (ps.map oV)) ∧ 0 < ps.length ∧ ps.length ≤ 50 ∧
  ∀ (H' : Hp) (b : Addr) (ps' : List (Option Int)), Kp d H H' → DI d l H' → H' b = some (.tup (ps'.map oV)) → ps'.length ≤ 60 → Q (.ref b) H'
theorem ok_spoilt (T : Txt K mg) : FnOk P w K mg base CX0 3 T.a_law_spoilt T.d_law_spoilt ["_law_d", "_law_paper"] spSpoilt := by
  have G_law_draw : FnOk P w K mg base CX0 1 T.a_law_draw T.d_law_draw ["_law_d", "_law_many"] spDraw := ok_draw T
  have G_law_pick : FnOk P w K mg base CX0 2 T.a_law_pick T.d_law_pick ["_law_d", "_law_row"] (spPick K) := ok_pick T
  refine T.D_law_spoilt.F.ok sc_law_spoilt (fun vs H Q E h => ?_) (fun cdv A outer s H vs Q E hr h => ?_)
  · obtain ⟨d, l, L, ps, rfl, _⟩ := h
    rfl
  · obtain ⟨d, l, L, ps, rfl, hD, nL, eL, p0, pl, q⟩ := h
    refine ⟨_, (pss_cons (ps_set (i := 2) sc_law_spoilt.nd rfl (.inr rfl) (pe_callTy call_list_of (by rfl) T.n_list (by decide +kernel) (pa_cons (pv 1) pa_nil)))
      (pss_cons (ps_set (i := 3) sc_law_spoilt.nd rfl (.inl rfl) (pe_call G_law_draw (hr.mono (by decide)) (by rfl) T.D_law_draw.G T.D_law_draw.F.kp T.D_law_draw.B .nil pass0 (pa_cons (pv 0) (pa_cons pe_int pa_nil))))
      (pss_cons (ps_set (i := 4) sc_law_spoilt.nd rfl (.inr rfl) (pe_call G_law_draw (hr.mono (by decide)) (by rfl) T.D_law_draw.G T.D_law_draw.F.kp T.D_law_draw.B .nil pass0 (pa_cons (pv 0) (pa_cons (pe_callB call_len_seq (by rfl) T.n_len PySem.boot_len (pa_cons (pv 2) pa_nil)) pa_nil))))
      (Evl.pss_cut (ps_if (PW.pt (pw_and (pt_cmpR op_eq (pv 3) pe_int (nomark _)) (pw_and1 (pt_cmpR op_notN (pe_ix ix_list (pv 2) (pv 4) (fun _ _ => rfl)) pe_non (nomark _))))) (pss_one (ps_asg (pe_op op_add (pe_op op_add (pe_ix ix_list (pv 2) (pv 4) (fun _ _ => rfl)) pe_int) (pe_call G_law_draw (hr.mono (by decide)) (by rfl) T.D_law_draw.G T.D_law_draw.F.kp T.D_law_draw.B .nil pass0 (pa_cons (pv 0) (pa_cons pe_int pa_nil)))) (pg_sub (pv 2) (pv 4) set_list))) pss_nil)
      (Evl.pss_cut (ps_if (PW.pt (pw_and (pt_cmpR op_eq (pv 3) pe_int (nomark _)) (pw_and1 (pt_cmpR op_notN (pe_ix ix_list (pv 2) (pv 4) (fun _ _ => rfl)) pe_non (nomark _))))) (pss_one (ps_asg (pe_op op_sub (pe_op op_sub (pe_ix ix_list (pv 2) (pv 4) (fun _ _ => rfl)) pe_int) (pe_call G_law_draw (hr.mono (by decide)) (by rfl) T.D_law_draw.G T.D_law_draw.F.kp T.D_law_draw.B .nil pass0 (pa_cons (pv 0) (pa_cons pe_int pa_nil)))) (pg_sub (pv 2) (pv 4) set_list))) pss_nil)
      (Evl.pss_cut (ps_if (pt_cmpR op_eq (pv 3) pe_int (nomark _)) (pss_one (ps_asg (pe_ifExp (pt_cmpR op_notN (pe_ix ix_list (pv 2) (pv 4) (fun _ _ => rfl)) pe_non (nomark _)) pe_non (pe_call G_law_draw (hr.mono (by decide)) (by rfl) T.D_law_draw.G T.D_law_draw.F.kp T.D_law_draw.B .nil pass0 (pa_cons (pv 0) (pa_cons pe_int pa_nil)))) (pg_sub (pv 2) (pv 4) set_list))) pss_nil)
      (Evl.pss_cut (ps_if (pt_cmpR op_eq (pv 3) pe_int (nomark _)) (pss_cons (ps_set (i := 5) sc_law_spoilt.nd rfl (.inr rfl) (pe_op op_add pe_int (pe_call G_law_draw (hr.mono (by decide)) (by rfl) T.D_law_draw.G T.D_law_draw.F.kp T.D_law_draw.B .nil pass0 (pa_cons (pv 0) (pa_cons pe_int pa_nil)))))
      (pss_one (ps_set (i := 2) sc_law_spoilt.nd rfl (.inr rfl) (pe_lc (own := [("_law_k", 6)]) (g := gName 6) (tt := tYes) rfl sc_law_spoilt.nd (pi_range1 (by rfl) T.n_range (pa_cons (pe_callB call_len_seq (by rfl) T.n_len PySem.boot_len (pa_cons (pv 2) pa_nil)) pa_nil)) (blkOk_by (own := [("_law_k", 6)]) (N := ["_law_d", "_law_paper", "_law_rows", "_law_kind", "_law_at", "_law_less", "_law_k"]) (sc := defScope s_law_spoilt) (by decide +kernel)) (fun _ _ _ _ _ => (pg_name (i := 6) sc_law_spoilt.nd rfl (.inl rfl))) (fun _ _ _ _ _ => pts_nil) (fun _ _ _ _ _ => (pe_ifExp (PW.pt (pw_and (pt_cmpR op_ge (pv 6) (pv 4) (nomark _)) (pw_and (pt_cmpR op_gt (pv 6) pe_int (nomark _)) (pw_and1 (pt_cmpR op_notN (pe_ix (r := rIxL K) ix_list (pv 2) (pv 6) (fun _ _ => rfl)) pe_non (nomark _)))))) (pe_op op_sub (pe_ix (r := rIxL K) ix_list (pv 2) (pv 6) (fun _ _ => rfl)) (pv 5)) (pe_ix (r := rIxL K) ix_list (pv 2) (pv 6) (fun _ _ => rfl)))))))) pss_nil)
      (Evl.pss_cut (ps_if (pt_cmpR op_eq (pv 3) pe_int (nomark _)) (pss_one (ps_expr (pe_bm PySem.F.plainAttrs_list PySem.F.slot_list_append PySem.F.type_list_append mt_append (pv 2) (pa_cons (pe_call G_law_pick (hr.mono (by decide)) (by rfl) T.D_law_pick.G T.D_law_pick.F.kp T.D_law_pick.B .nil pass0 (pa_cons (pv 0) (pa_cons (pe_lst (pa_cons pe_int (pa_cons pe_int (pa_cons pe_non pa_nil)))) pa_nil))) pa_nil)))) pss_nil)
      (Evl.pss_cut (ps_if (pt_cmpR op_eq (pv 3) pe_int (nomark _)) (pss_one (ps_expr (pe_bm PySem.F.plainAttrs_list PySem.F.slot_list_pop PySem.F.type_list_pop mt_popAt (pv 2) (pa_cons (pv 4) pa_nil)))) pss_nil)
      (pss_one (ps_ret (pe_callTy call_tuple_of (by rfl) T.n_tuple (by decide +kernel) (pa_cons (pv 2) pa_nil))))))))))))), ?_⟩
    refine ⟨_, rfl, L, _, rfl, .inl (SqL.of eL), fun R nR => ?_⟩
    have D1 := hD.new (o := .lst (ps.map oV)) nR
    have k1 := (Kp.refl d H).new (o := .lst (ps.map oV)) nR
    have dR := hD.nd nR
    refine ⟨_, rfl, d, l, 7, rfl, D1, by decide, fun H2 kind k2 D2 _ _ => ?_⟩
    have eR2 := k2 _ _ dR.1 (show upd H R (.lst (ps.map oV)) R = _ from upd_same)
    refine ⟨_, rfl, _, rfl, R, _, rfl, .inl (SqL.of eR2), d, l, _, rfl, D2, by rw [List.length_map]; omega, fun H3 r k3 D3 ra rb => ?_⟩
    rw [List.length_map] at ra rb
    obtain ⟨a, ha, rfl⟩ : ∃ a : Nat, a < ps.length ∧ r = (a : Int) := by
      by_cases h : (ps.length : Int) < 2
      · exact ⟨0, p0, ra h⟩
      · have := rb (by omega)
        exact ⟨r.toNat, by omega, by omega⟩
    have k3 := (k1.trans k2).trans k3
    have eR3 : H3 R = some (.lst (ps.map oV)) := by
      have := DI.nd hD nR
      exact ‹Kp d H2 H3› _ _ dR.1 eR2
    clear D1 k1 k2 D2 eR2 ra rb
    have gp := pg_some ha
    have iS : ixN (ps.map oV).length (a : Int) = some a := ixN_nat (by rw [List.length_map]; exact ha)
    have I0 : SpI d l L H kind a 50 [some (.ref d), some (.ref L), some (.ref R), some (.int kind), some (.int (a : Int)), none, none] H3 := ⟨R, ps, none, none, rfl, k3, D3, nR, dR.1, dR.2, eR3, ha, pl⟩
    refine ⟨SpI d l L H kind a 50, ?_, ?_⟩
    · refine ⟨_, rfl, rfl, ?_⟩
      by_cases hk : kind = 1
      case neg => exact ⟨false, bFa (fun z => hk (V.int.inj z)), I0⟩
      refine ⟨true, bTr (by rw [hk]), ?_⟩
      refine ⟨_, rfl, _, rfl, R, _, _, _, rfl, rfl, SqL.of eR3, atI_nat gp, rfl, ?_⟩
      cases hv : pg ps a with
      | none => exact ⟨false, bNT rfl, I0⟩
      | some x =>
        rw [hv] at gp
        refine ⟨true, bNF (fun z => by cases z), ?_⟩
        refine ⟨_, rfl, _, rfl, R, _, _, _, rfl, rfl, SqL.of eR3, atI_nat gp, _, _, rfl, rfl, ?_⟩
        refine ⟨_, rfl, d, l, 3, rfl, D3, by decide, fun H4 y k4 D4 _ _ => ?_⟩
        refine ⟨_, _, rfl, rfl, _, rfl, _, rfl, R, _, _, _, rfl, rfl, k4 _ _ dR.1 eR3, iS, ?_⟩
        exact SpI.put (some (x + 1 + y)) (k3.trans k4) D4 nR dR.1 dR.2 ha pl
    clear I0 gp iS eR3 k3 D3 nR dR ha
    rintro σ' H4 ⟨R, rs, x5, x6, rfl, k3, D3, nR, d1, d2, eR3, ha, pl⟩
    have gp := pg_some ha
    have iS : ixN (rs.map oV).length (a : Int) = some a := ixN_nat (by rw [List.length_map]; exact ha)
    have I0 : SpI d l L H kind a 50 [some (.ref d), some (.ref L), some (.ref R), some (.int kind), some (.int (a : Int)), x5, x6] H4 := ⟨R, rs, x5, x6, rfl, k3, D3, nR, d1, d2, eR3, ha, pl⟩
    refine ⟨SpI d l L H kind a 50, ?_, ?_⟩
    · refine ⟨_, rfl, rfl, ?_⟩
      by_cases hk : kind = 2
      case neg => exact ⟨false, bFa (fun z => hk (V.int.inj z)), I0⟩
      refine ⟨true, bTr (by rw [hk]), ?_⟩
      refine ⟨_, rfl, _, rfl, R, _, _, _, rfl, rfl, SqL.of eR3, atI_nat gp, rfl, ?_⟩
      cases hv : pg rs a with
      | none => exact ⟨false, bNT rfl, I0⟩
      | some x =>
        rw [hv] at gp
        refine ⟨true, bNF (fun z => by cases z), ?_⟩
        refine ⟨_, rfl, _, rfl, R, _, _, _, rfl, rfl, SqL.of eR3, atI_nat gp, _, _, rfl, rfl, ?_⟩
        refine ⟨_, rfl, d, l, 3, rfl, D3, by decide, fun H5 y k4 D4 _ _ => ?_⟩
        refine ⟨_, _, rfl, rfl, _, rfl, _, rfl, R, _, _, _, rfl, rfl, k4 _ _ d1 eR3, iS, ?_⟩
        exact SpI.put (some (x - 1 - y)) (k3.trans k4) D4 nR d1 d2 ha pl
    clear I0 gp iS eR3 k3 D3 nR d1 d2 ha
    rintro σ' H4 ⟨R, rs, x5, x6, rfl, k3, D3, nR, d1, d2, eR3, ha, pl⟩
    have gp := pg_some ha
    have iS : ixN (rs.map oV).length (a : Int) = some a := ixN_nat (by rw [List.length_map]; exact ha)
    have I0 : SpI d l L H kind a 50 [some (.ref d), some (.ref L), some (.ref R), some (.int kind), some (.int (a : Int)), x5, x6] H4 := ⟨R, rs, x5, x6, rfl, k3, D3, nR, d1, d2, eR3, ha, pl⟩
    refine ⟨SpI d l L H kind a 50, ?_, ?_⟩
    · refine ⟨_, rfl, rfl, _, rfl, ite2 (fun _ => ?_) (fun _ => I0)⟩
      refine ⟨_, rfl, _, rfl, R, _, _, _, rfl, rfl, SqL.of eR3, atI_nat gp, rfl, ?_⟩
      cases hv : pg rs a with
      | none =>
        refine ⟨false, bNT rfl, ?_⟩
        refine ⟨_, rfl, d, l, 4, rfl, D3, by decide, fun H5 y k4 D4 _ _ => ?_⟩
        refine ⟨_, rfl, _, rfl, R, _, _, _, rfl, rfl, k4 _ _ d1 eR3, iS, ?_⟩
        exact SpI.put (some y) (k3.trans k4) D4 nR d1 d2 ha pl
      | some x =>
        refine ⟨true, bNF (fun z => by cases z), ?_⟩
        refine ⟨_, rfl, _, rfl, R, _, _, _, rfl, rfl, eR3, iS, ?_⟩
        exact SpI.put none k3 D3 nR d1 d2 ha pl
    clear I0 gp iS eR3 k3 D3 nR d1 d2 ha
    rintro σ' H4 ⟨R, rs, x5, x6, rfl, k3, D3, nR, d1, d2, eR3, ha, pl⟩
    have gp := pg_some ha
    have iS : ixN (rs.map oV).length (a : Int) = some a := ixN_nat (by rw [List.length_map]; exact ha)
    have I0 : SpI d l L H kind a 50 [some (.ref d), some (.ref L), some (.ref R), some (.int kind), some (.int (a : Int)), x5, x6] H4 := ⟨R, rs, x5, x6, rfl, k3, D3, nR, d1, d2, eR3, ha, pl⟩
    refine ⟨SpI d l L H kind a 50, ?_, ?_⟩
    · refine ⟨_, rfl, rfl, _, rfl, ite2 (fun _ => ?_) (fun _ => I0)⟩
      refine ⟨_, rfl, d, l, 3, rfl, D3, by decide, fun H5 y k4 D4 _ _ => ?_⟩
      refine ⟨_, _, rfl, rfl, ?_⟩
      have eR5 := k4 _ _ d1 eR3
      refine ⟨_, rfl, R, _, rfl, .inl (SqL.of eR5), _, rfl, by rw [List.length_map]; omega, by rw [List.length_map]; omega, ?_⟩
      refine fun D nD => lc_range (lo := 0) (n := (((rs.map oV).length : Nat) : Int).toNat) (fun i H' => ∃ zs : List (Option Int), zs.length = i ∧ Kp d H5 H' ∧ DI d l H' ∧ H' D = some (.lst (zs.map oV))) ⟨[], rfl, (Kp.refl d H5).new nD, D4.new nD, upd_same⟩ (fun i H1 hi p => ⟨rfl, ?_⟩) (fun H' p => ?_)
      · obtain ⟨zs, lz, k6, D6, eD⟩ := p
        have hi : i < rs.length := by rw [List.length_map] at hi; omega
        have gi := pg_some hi
        have ei : (0 : Int) + (i : Int) = (i : Int) := Int.zero_add _
        have eR6 := k6 _ _ d1 eR5
        have fin : ∀ v : Option Int, ∃ acc, H1 D = some (.lst acc) ∧ acc.length < sizeLine ∧ ∃ zs : List (Option Int), zs.length = i + 1 ∧ Kp d H5 (upd H1 D (.lst (acc ++ [oV v]))) ∧ DI d l (upd H1 D (.lst (acc ++ [oV v]))) ∧ upd H1 D (.lst (acc ++ [oV v])) D = some (.lst (zs.map oV)) := by
          intro v
          have dD := D4.nd nD
          refine ⟨_, eD, by rw [List.length_map]; exact szN (by omega), zs ++ [v], by rw [List.length_append, lz]; rfl, k6.mut nD, D6.at dD.1 dD.2, ?_⟩
          rw [upd_same, List.map_append]; rfl
        refine ⟨_, rfl, _, rfl, _, _, rfl, rfl, ?_⟩
        by_cases c1 : (a : Int) ≤ 0 + (i : Int)
        case neg =>
          refine ⟨false, bFa c1, ?_⟩
          exact ⟨_, rfl, _, rfl, R, _, _, _, rfl, rfl, SqL.of eR6, by rw [ei]; exact atI_nat gi, fin _⟩
        refine ⟨true, bTr c1, ?_⟩
        refine ⟨_, rfl, _, _, rfl, rfl, ?_⟩
        by_cases c2 : (0 : Int) < 0 + (i : Int)
        case neg =>
          refine ⟨false, bFa c2, ?_⟩
          exact ⟨_, rfl, _, rfl, R, _, _, _, rfl, rfl, SqL.of eR6, by rw [ei]; exact atI_nat gi, fin _⟩
        refine ⟨true, bTr c2, ?_⟩
        refine ⟨_, rfl, _, rfl, R, _, _, _, rfl, rfl, SqL.of eR6, by rw [ei]; exact atI_nat gi, rfl, ?_⟩
        cases hv : pg rs i with
        | none =>
          rw [hv] at gi
          refine ⟨false, bNT rfl, ?_⟩
          exact ⟨_, rfl, _, rfl, R, _, _, _, rfl, rfl, SqL.of eR6, by rw [ei]; exact atI_nat gi, fin none⟩
        | some x =>
          rw [hv] at gi
          refine ⟨true, bNF (fun z => by cases z), ?_⟩
          exact ⟨_, rfl, _, rfl, R, _, _, _, rfl, rfl, SqL.of eR6, by rw [ei]; exact atI_nat gi, _, rfl, _, _, rfl, rfl, fin (some _)⟩
      · obtain ⟨zs, lz, k6, D6, eD⟩ := p
        have dD := D4.nd nD
        have lz : zs.length = rs.length := by rw [lz, List.length_map]; exact Int.toNat_natCast _
        exact ⟨D, zs, _, _, rfl, (k3.trans k4).trans k6, D6, none_kp (k3.trans k4) dD.1 nD, dD.1, dD.2, eD, by omega, by omega⟩
    clear I0 gp iS eR3 k3 D3 nR d1 d2 ha
    rintro σ' H4 ⟨R, rs, x5, x6, rfl, k3, D3, nR, d1, d2, eR3, ha, pl⟩
    have gp := pg_some ha
    have iS : ixN (rs.map oV).length (a : Int) = some a := ixN_nat (by rw [List.length_map]; exact ha)
    have I0 : SpI d l L H kind a 51 [some (.ref d), some (.ref L), some (.ref R), some (.int kind), some (.int (a : Int)), x5, x6] H4 := ⟨R, rs, x5, x6, rfl, k3, D3, nR, d1, d2, eR3, ha, by omega⟩
    refine ⟨SpI d l L H kind a 51, ?_, ?_⟩
    · refine ⟨_, rfl, rfl, _, rfl, ite2 (fun _ => ?_) (fun _ => I0)⟩
      refine ⟨.ref R, rfl, .inl ⟨rfl, _, .inl (.inl eR3)⟩, _, rfl, ?_⟩
      refine ⟨by show 3 ≤ sizeLine; decide, fun M nM => ?_⟩
      have D4 := D3.new (o := .lst [V.int 0, V.int 3, V.non]) nM
      have k4 := k3.new (o := .lst [V.int 0, V.int 3, V.non]) nM
      have nMR : R ≠ M := ne_of_none eR3 nM
      have eM : upd H4 M (.lst [V.int 0, V.int 3, V.non]) M = some (.lst [V.int 0, V.int 3, V.non]) := upd_same
      refine ⟨d, l, .ref M, [V.int 0, V.int 3, V.non], rfl, D4, .inl ⟨M, rfl, (D3.nd nM).1, SqL.of eM⟩, by decide, by decide, fun H5 v k5 D5 hv => ?_⟩
      have eR5 : H5 R = some (.lst (rs.map oV)) := k5 _ _ d1 (by rw [upd_ne nMR]; exact eR3)
      obtain ⟨v, rfl⟩ : ∃ u : Option Int, v = oV u := by
        simp only [List.mem_cons, List.not_mem_nil, or_false] at hv
        rcases hv with h | h | h
        · exact ⟨some 0, h⟩
        · exact ⟨some 3, h⟩
        · exact ⟨none, h⟩
      refine ⟨R, _, _, rfl, rfl, eR5, by rw [List.length_map]; exact szN (by omega), ?_⟩
      exact ⟨R, rs ++ [v], _, _, rfl, (k4.trans k5).mut nR, D5.at d1 d2, nR, d1, d2, by rw [upd_same, List.map_append]; rfl, by rw [List.length_append]; omega, by rw [List.length_append]; show rs.length + 1 ≤ 51; omega⟩
    clear I0 gp iS eR3 k3 D3 nR d1 d2 ha
    rintro σ' H4 ⟨R, rs, x5, x6, rfl, k3, D3, nR, d1, d2, eR3, ha, pl⟩
    have gp := pg_some ha
    have iS : ixN (rs.map oV).length (a : Int) = some a := ixN_nat (by rw [List.length_map]; exact ha)
    have I0 : SpI d l L H kind a 51 [some (.ref d), some (.ref L), some (.ref R), some (.int kind), some (.int (a : Int)), x5, x6] H4 := ⟨R, rs, x5, x6, rfl, k3, D3, nR, d1, d2, eR3, ha, pl⟩
    refine ⟨fun σ' H' => ∃ (R : Addr) (rs : List (Option Int)) (x5 x6 : Option V), σ' = [some (.ref d), some (.ref L), some (.ref R), some (.int kind), some (.int (a : Int)), x5, x6] ∧ Kp d H H' ∧ DI d l H' ∧ H' R = some (.lst (rs.map oV)) ∧ rs.length ≤ 51, ?_, ?_⟩
    · refine ⟨_, rfl, rfl, _, rfl, ite2 (fun _ => ?_) (fun _ => ⟨R, rs, _, _, rfl, k3, D3, eR3, pl⟩)⟩
      refine ⟨.ref R, rfl, .inl ⟨rfl, _, .inl (.inl eR3)⟩, _, rfl, ?_⟩
      refine ⟨R, _, (a : Int), a, _, rfl, rfl, eR3, by omega, by omega, (ixN_seq iS).1, gp, ?_⟩
      exact ⟨R, rs.eraseIdx a, _, _, rfl, k3.mut nR, D3.at d1 d2, by rw [upd_same, erase_map], Nat.le_trans (List.length_eraseIdx_le _ _) pl⟩
    rintro σ' H5 ⟨R, rs, x5, x6, rfl, k3, D3, eR, pl⟩
    refine ⟨_, rfl, R, _, rfl, .inl ⟨SqL.of eR, fun B nB => ?_⟩⟩
    exact q _ B rs (k3.new nB) (D3.new nB) upd_same (by omega)
end
end Vf

set_option Elab.async false
set_option linter.all false
set_option maxRecDepth 100000
set_option maxHeartbeats 4000000
namespace Vf
open PySem PySem.Spec PyProof.Rows L2 TL
theorem paper_right {n : Nat} {as : List Arc} {ps : List (Option Int)} (h1 : ps.length = n) (h2 : pg ps 0 = some 0) (h : ∀ a ∈ as, arcBad ps a = false) : paperOk n as (pg ps (n - 1)) ps = true :=
  judge_good h1 h2 rfl fun _ a e => h a (List.mem_of_getElem? e)
section
variable {P : Program} {w : World} {K : PySem.W.Frag} {mg : Str → Option Value} {base : Heap}
def spLaw (K : PySem.W.Frag) : Sp := fun vs H Q _ => ∃ (a : Addr) (ns : List Int), vs = [.ref a] ∧ SqL K H a (ns.map V.int) ∧ ns.length ≤ 63 ∧ ∀ H', Q (.bl true) H'
theorem ok_law (T : Txt K mg) : FnOk P w K mg base CX0 4 T.a_law T.d_law ["_law_script"] (spLaw K) := by
  have G_law_begin : FnOk P w K mg base CX0 1 T.a_law_begin T.d_law_begin ["_law_script"] (spBegin K) := ok_begin T
  have G_law_draw : FnOk P w K mg base CX0 1 T.a_law_draw T.d_law_draw ["_law_d", "_law_many"] spDraw := ok_draw T
  have G_law_pick : FnOk P w K mg base CX0 2 T.a_law_pick T.d_law_pick ["_law_d", "_law_row"] (spPick K) := ok_pick T
  have G_law_net : FnOk P w K mg base CX0 2 T.a_law_net T.d_law_net ["_law_d"] spNet := ok_net T
  have G_law_right_bounds : FnOk P w K mg base CX0 1 T.a_law_right_bounds T.d_law_right_bounds ["_law_net_here"] spRight := ok_right T
  have G_law_spoilt : FnOk P w K mg base CX0 3 T.a_law_spoilt T.d_law_spoilt ["_law_d", "_law_paper"] spSpoilt := ok_spoilt T
  have G_law_is_paper : FnOk P w K mg base CX0 1 T.a_law_is_paper T.d_law_is_paper ["_law_net_here", "_law_total", "_law_paper"] (spJudge K) := ok_is_paper T
  have G_judge_bounds : FnOk P w K mg base CX0 1 T.a_judge_bounds T.d_judge_bounds ["net", "total", "bounds"] (spJudge K) := ok_judge T
  refine T.D_law.F.ok sc_law (fun vs H Q E h => ?_) (fun cdv A outer s H vs Q E hr h => ?_)
  · obtain ⟨a, ns, rfl, _⟩ := h
    rfl
  · obtain ⟨a, ns, rfl, hS, hl, q⟩ := h
    refine ⟨_, (pss_cons (ps_set (i := 1) sc_law.nd rfl (.inl rfl) (pe_call G_law_begin (hr.mono (by decide)) (by rfl) T.D_law_begin.G T.D_law_begin.F.kp T.D_law_begin.B .nil pass0 (pa_cons (pv 0) pa_nil)))
      (pss_cons (ps_for PassesOwn.never rfl (pi_range1 (by rfl) T.n_range (pa_cons pe_int pa_nil)) (pg_name (i := 2) sc_law.nd rfl (.inl rfl)) (pss_cons (ps_set (i := 3) sc_law.nd rfl (.inl rfl) (pe_call G_law_net (hr.mono (by decide)) (by rfl) T.D_law_net.G T.D_law_net.F.kp T.D_law_net.B .nil pass0 (pa_cons (pv 1) pa_nil)))
      (pss_cons (ps_set (i := 4) sc_law.nd rfl (.inl rfl) (pe_call G_law_right_bounds (hr.mono (by decide)) (by rfl) T.D_law_right_bounds.G T.D_law_right_bounds.F.kp T.D_law_right_bounds.B .nil pass0 (pa_cons (pv 3) pa_nil)))
      (pss_cons (ps_set (i := 5) sc_law.nd rfl (.inl rfl) (pe_ix ix_list (pv 4) (pe_op op_sub (pe_ix ix_tup (pv 3) pe_int (fun _ _ => rfl)) pe_int) (fun _ _ => rfl)))
      (pss_cons (ps_if (pt_cmpR op_notBl (pe_call G_judge_bounds (hr.mono (by decide)) (by rfl) T.D_judge_bounds.G T.D_judge_bounds.F.kp T.D_judge_bounds.B .nil pass0 (pa_cons (pv 3) (pa_cons (pv 5) (pa_cons (pe_callTy call_tuple_of (by rfl) T.n_tuple (by decide +kernel) (pa_cons (pv 4) pa_nil)) pa_nil)))) pe_bl (nomark _)) (pss_one (ps_ret pe_bl)) pss_nil)
      (pss_one (ps_for PassesOwn.never rfl (pi_range1 (by rfl) T.n_range (pa_cons pe_int pa_nil)) (pg_name (i := 6) sc_law.nd rfl (.inl rfl)) (pss_cons (ps_set (i := 7) sc_law.nd rfl (.inl rfl) (pe_call G_law_spoilt (hr.mono (by decide)) (by rfl) T.D_law_spoilt.G T.D_law_spoilt.F.kp T.D_law_spoilt.B .nil pass0 (pa_cons (pv 1) (pa_cons (pv 4) pa_nil))))
      (pss_cons (ps_set (i := 8) sc_law.nd rfl (.inl rfl) (pv 5))
      (Evl.pss_cut (ps_if (PW.pt (pw_and (pt_truth (pv 7) (by intro _; rfl)) (pw_and1 (pt_cmpR op_eq (pe_call G_law_draw (hr.mono (by decide)) (by rfl) T.D_law_draw.G T.D_law_draw.F.kp T.D_law_draw.B .nil pass0 (pa_cons (pv 1) (pa_cons pe_int pa_nil))) pe_int (nomark _))))) (pss_one (ps_set (i := 8) sc_law.nd rfl (.inl rfl) (pe_ix ix_tup (pv 7) (pe_op op_sub (pe_callB call_len_seq (by rfl) T.n_len PySem.boot_len (pa_cons (pv 7) pa_nil)) pe_int) (fun _ _ => rfl)))) pss_nil)
      (Evl.pss_cut (ps_if (pt_cmpR op_eq (pe_call G_law_draw (hr.mono (by decide)) (by rfl) T.D_law_draw.G T.D_law_draw.F.kp T.D_law_draw.B .nil pass0 (pa_cons (pv 1) (pa_cons pe_int pa_nil))) pe_int (nomark _)) (pss_one (ps_set (i := 8) sc_law.nd rfl (.inl rfl) (pe_call G_law_pick (hr.mono (by decide)) (by rfl) T.D_law_pick.G T.D_law_pick.F.kp T.D_law_pick.B .nil pass0 (pa_cons (pv 1) (pa_cons (pe_lst (pa_cons pe_non (pa_cons pe_int (pa_cons pe_int (pa_cons (pe_un un_neg pe_int) pa_nil))))) pa_nil))))) pss_nil)
      (pss_cons (ps_set (i := 9) sc_law.nd rfl (.inl rfl) (pe_call G_judge_bounds (hr.mono (by decide)) (by rfl) T.D_judge_bounds.G T.D_judge_bounds.F.kp T.D_judge_bounds.B .nil pass0 (pa_cons (pv 3) (pa_cons (pv 8) (pa_cons (pv 7) pa_nil)))))
      (pss_one (ps_if (PW.pt (pw_or (pt_not (pt_val (pe_callB call_isi (by rfl) T.n_isinstance (by decide +kernel) (pa_cons (pv 9) (pa_cons (pe_bltn (v := .ty "bool") (by rfl) T.n_bool (by decide +kernel) rfl) pa_nil))))) (pw_or1 (pt_cmpR op_ne (pv 9) (pe_call G_law_is_paper (hr.mono (by decide)) (by rfl) T.D_law_is_paper.G T.D_law_is_paper.F.kp T.D_law_is_paper.B .nil pass0 (pa_cons (pv 3) (pa_cons (pv 8) (pa_cons (pv 7) pa_nil)))) (nomark _))))) (pss_one (ps_ret pe_bl)) pss_nil))))))))))))))
      (pss_one (ps_ret pe_bl)))), ?_⟩
    refine ⟨_, rfl, a, ns, rfl, hS, hl, fun H1 d l s1 D1 => ?_⟩
    refine ⟨2, rfl, by decide, by decide, ?_⟩
    refine for_it walk_range (fun i σ' H' => ∃ (x2 x3 x4 x5 x6 x7 x8 x9 : Option V), σ' = [some (.ref a), some (.ref d), x2, x3, x4, x5, x6, x7, x8, x9] ∧ DI d l H') ⟨none, none, none, none, none, none, none, none, rfl, D1⟩ (fun _ _ _ _ _ => trivial) ?_ ?_
    · rintro i x σ' H2 H3 hi ⟨x2, x3, x4, x5, x6, x7, x8, x9, rfl, D2⟩ ⟨rfl, hx⟩
      refine ⟨_, rfl, d, l, rfl, D2, fun H4 v n as k4 D4 nv ok => ?_⟩
      refine ⟨_, rfl, v, n, as, rfl, nv, ok, fun H5 L ps k5 nL eL lp pz hb => ?_⟩
      have D5 := D4.keep k5
      have nv5 := nv.mono fun _ _ e => k5 _ _ e
      obtain ⟨na, pa, us, rfl, e1, e2, lv⟩ := id nv5
      have hn := ok.1
      have n7 := ok.2.1
      have en : ((n : Nat) : Int) - 1 = ((n - 1 : Nat) : Int) := by omega
      have gl := pg_at (ps := ps) (i := n - 1) (by omega)
      refine ⟨_, rfl, _, rfl, na, _, 0, _, rfl, rfl, SqT.of e1, rfl, _, _, rfl, rfl, L, _, _, _, rfl, rfl, SqL.of eL, by rw [en]; exact atI_nat gl, ?_⟩
      refine ⟨_, rfl, _, rfl, _, rfl, L, _, rfl, .inl ⟨SqL.of eL, fun B nB => ?_⟩⟩
      have D6 := D5.new (o := .tup (ps.map oV)) nB
      have k6 := same_upd (o := .tup (ps.map oV)) (Same.refl H5) nB
      have nv6 := nv5.mono fun _ _ e => k6 _ _ e
      have eL6 := k6 _ _ eL
      have nLd : L ≠ d := (D4.nd nL).1
      refine ⟨_, B, n, as, pg ps (n - 1), ps, rfl, nv6, ok, SqT.of upd_same, ?_⟩
      rw [paper_right lp pz hb]
      refine ⟨true, true, rfl, rfl, false, rfl, ?_⟩
      generalize upd H5 B (.tup (ps.map oV)) = H6 at D6 k6 nv6 eL6
      refine ⟨3, rfl, by decide, by decide, ?_⟩
      refine for_it walk_range (fun j σ' H' => ∃ (x6 x7 x8 x9 : Option V), σ' = [some (.ref a), some (.ref d), some x, some (.ref na), some (.ref L), some (oV (pg ps (n - 1))), x6, x7, x8, x9] ∧ DI d l H' ∧ Kp d H6 H') ⟨x6, x7, x8, x9, rfl, D6, Kp.refl d H6⟩ (fun _ _ _ _ _ => trivial) ?_ ?_
      · rintro j y σ' H7 H8 hj ⟨x6, x7, x8, x9, rfl, D7, k7⟩ ⟨rfl, hy⟩
        refine ⟨_, rfl, _, rfl, d, l, L, ps, rfl, D7, nLd, k7 _ _ nLd eL6, by omega, by omega, fun H9 B ps' k9 D9 eB lb => ?_⟩
        have kn := k7.trans k9
        have nv9 := nv6.mono (kpTup D6 kn)
        refine ⟨_, rfl, ?_⟩
        refine ⟨fun σ' H' => ∃ t : Option Int, σ' = [some (.ref a), some (.ref d), some x, some (.ref na), some (.ref L), some (oV (pg ps (n - 1))), some y, some (.ref B), some (oV t), x9] ∧ DI d l H' ∧ Kp d H9 H', ?_, ?_⟩
        · cases ps' with
          | nil =>
            exact ⟨_, rfl, false, .inr (.inl ⟨_, SqT.of eB, rfl⟩), pg ps (n - 1), rfl, D9, Kp.refl d H9⟩
          | cons p0 pr =>
            refine ⟨_, rfl, true, .inr (.inl ⟨_, SqT.of eB, rfl⟩), ?_⟩
            refine ⟨_, rfl, d, l, 2, rfl, D9, by decide, fun H10 r k10 D10 _ _ => ?_⟩
            refine ⟨rfl, _, rfl, ite2 (fun _ => ?_) (fun _ => ⟨pg ps (n - 1), rfl, D10, k10⟩)⟩
            have eB10 := kpTup D9 k10 _ _ eB
            have gB := pg_at (ps := p0 :: pr) (i := pr.length) (by simp)
            have eq1 : (((List.map oV (p0 :: pr)).length : Nat) : Int) - 1 = (pr.length : Int) := by
              rw [List.length_map, List.length_cons]; omega
            exact ⟨_, rfl, _, rfl, B, _, rfl, .inr (SqT.of eB10), _, _, rfl, rfl, B, _, _, _, rfl, rfl, SqT.of eB10, by rw [eq1]; exact atI_nat gB, _, rfl, D10, k10⟩
        · rintro σ' H10 ⟨t, rfl, D10, k10⟩
          refine ⟨fun σ' H' => ∃ t : Option Int, σ' = [some (.ref a), some (.ref d), some x, some (.ref na), some (.ref L), some (oV (pg ps (n - 1))), some y, some (.ref B), some (oV t), x9] ∧ DI d l H' ∧ Kp d H9 H', ?_, ?_⟩
          · refine ⟨_, rfl, d, l, 6, rfl, D10, by decide, fun H11 r k11 D11 _ _ => ?_⟩
            refine ⟨rfl, _, rfl, ite2 (fun _ => ?_) (fun _ => ⟨t, rfl, D11, k10.trans k11⟩)⟩
            refine ⟨_, rfl, 1, rfl, by show 4 ≤ sizeLine; decide, fun M nM => ?_⟩
            refine ⟨d, l, .ref M, [V.non, V.int 0, V.int 5, V.int (-1)], rfl, D11.new nM, .inl ⟨M, rfl, (D11.nd nM).1, SqL.of upd_same⟩, by decide, by decide, fun H12 v k12 D12 hv => ?_⟩
            obtain ⟨v, rfl⟩ : ∃ u : Option Int, v = oV u := by
              simp only [List.mem_cons, List.not_mem_nil, or_false] at hv
              rcases hv with h | h | h | h
              · exact ⟨none, h⟩
              · exact ⟨some 0, h⟩
              · exact ⟨some 5, h⟩
              · exact ⟨some (-1), h⟩
            exact ⟨v, rfl, D12, ((k10.trans k11).new nM).trans k12⟩
          · rintro σ' H11 ⟨t, rfl, D11, k11⟩
            have nv11 := nv9.mono (kpTup D9 k11)
            have eB11 := kpTup D9 k11 _ _ eB
            refine ⟨_, rfl, _, rfl, _, rfl, _, B, n, as, t, ps', rfl, nv11, ok, SqT.of eB11, ?_⟩
            refine ⟨_, rfl, _, _, .type "bool", .type "bool", true, rfl, .ty _, .base (.bl _), kit_ty (by decide +kernel), true, rfl, ?_⟩
            refine ⟨_, rfl, _, rfl, _, rfl, _, rfl, _, B, n, as, t, ps', rfl, nv11, ok, SqT.of eB11, rfl, false, bNT rfl, ?_⟩
            exact ⟨_, _, _, _, rfl, D11, kn.trans k11⟩
      · rintro σ' H7 ⟨x6, x7, x8, x9, rfl, D7, k7⟩
        exact ⟨_, _, _, _, _, _, _, _, rfl, D7⟩
    · rintro σ' H2 ⟨x2, x3, x4, x5, x6, x7, x8, x9, rfl, D2⟩
      exact q _
end
theorem all_mk {l : PySem.W.OpenLaw} {w : World} {K : PySem.W.Frag} {h : Heap} {mg : Str → Option Value} {fa : Addr} (X : K.In h) (G : h.Ns mainGlobals mg) (hfa : mg "law" = some (.ref fa))
    {f_judge_bounds : Addr} {od_judge_bounds an_judge_bounds : Option Addr} {sl_judge_bounds : Array (Option Value)} {oc_judge_bounds kV_judge_bounds dc_judge_bounds pm_judge_bounds cd_judge_bounds ct_judge_bounds : Value}
    (a_judge_bounds : PySem.W.nsIn K mainGlobals "judge_bounds" = some (some (.ref f_judge_bounds))) (l_judge_bounds : K.lookup f_judge_bounds = some ⟨oc_judge_bounds, od_judge_bounds, .func (PySem.W.fnOf "judge_bounds" "judge_bounds" (defArgs s_judge_bounds) (defBody s_judge_bounds) (defScope s_judge_bounds) .none kV_judge_bounds dc_judge_bounds pm_judge_bounds an_judge_bounds cd_judge_bounds ct_judge_bounds), sl_judge_bounds⟩) (c_judge_bounds : PySem.W.codeIn K cd_judge_bounds "judge_bounds" = true) (k_judge_bounds : PySem.W.keepIn K (.ref f_judge_bounds) = true)
    {f_law_begin : Addr} {od_law_begin an_law_begin : Option Addr} {sl_law_begin : Array (Option Value)} {oc_law_begin kV_law_begin dc_law_begin pm_law_begin cd_law_begin ct_law_begin : Value}
    (a_law_begin : PySem.W.nsIn K mainGlobals "_law_begin" = some (some (.ref f_law_begin))) (l_law_begin : K.lookup f_law_begin = some ⟨oc_law_begin, od_law_begin, .func (PySem.W.fnOf "_law_begin" "_law_begin" (defArgs s_law_begin) (defBody s_law_begin) (defScope s_law_begin) .none kV_law_begin dc_law_begin pm_law_begin an_law_begin cd_law_begin ct_law_begin), sl_law_begin⟩) (c_law_begin : PySem.W.codeIn K cd_law_begin "_law_begin" = true) (k_law_begin : PySem.W.keepIn K (.ref f_law_begin) = true)
    {f_law_draw : Addr} {od_law_draw an_law_draw : Option Addr} {sl_law_draw : Array (Option Value)} {oc_law_draw kV_law_draw dc_law_draw pm_law_draw cd_law_draw ct_law_draw : Value}
    (a_law_draw : PySem.W.nsIn K mainGlobals "_law_draw" = some (some (.ref f_law_draw))) (l_law_draw : K.lookup f_law_draw = some ⟨oc_law_draw, od_law_draw, .func (PySem.W.fnOf "_law_draw" "_law_draw" (defArgs s_law_draw) (defBody s_law_draw) (defScope s_law_draw) .none kV_law_draw dc_law_draw pm_law_draw an_law_draw cd_law_draw ct_law_draw), sl_law_draw⟩) (c_law_draw : PySem.W.codeIn K cd_law_draw "_law_draw" = true) (k_law_draw : PySem.W.keepIn K (.ref f_law_draw) = true)
    {f_law_pick : Addr} {od_law_pick an_law_pick : Option Addr} {sl_law_pick : Array (Option Value)} {oc_law_pick kV_law_pick dc_law_pick pm_law_pick cd_law_pick ct_law_pick : Value}
    (a_law_pick : PySem.W.nsIn K mainGlobals "_law_pick" = some (some (.ref f_law_pick))) (l_law_pick : K.lookup f_law_pick = some ⟨oc_law_pick, od_law_pick, .func (PySem.W.fnOf "_law_pick" "_law_pick" (defArgs s_law_pick) (defBody s_law_pick) (defScope s_law_pick) .none kV_law_pick dc_law_pick pm_law_pick an_law_pick cd_law_pick ct_law_pick), sl_law_pick⟩) (c_law_pick : PySem.W.codeIn K cd_law_pick "_law_pick" = true) (k_law_pick : PySem.W.keepIn K (.ref f_law_pick) = true)
    {f_law_net : Addr} {od_law_net an_law_net : Option Addr} {sl_law_net : Array (Option Value)} {oc_law_net kV_law_net dc_law_net pm_law_net cd_law_net ct_law_net : Value}
    (a_law_net : PySem.W.nsIn K mainGlobals "_law_net" = some (some (.ref f_law_net))) (l_law_net : K.lookup f_law_net = some ⟨oc_law_net, od_law_net, .func (PySem.W.fnOf "_law_net" "_law_net" (defArgs s_law_net) (defBody s_law_net) (defScope s_law_net) .none kV_law_net dc_law_net pm_law_net an_law_net cd_law_net ct_law_net), sl_law_net⟩) (c_law_net : PySem.W.codeIn K cd_law_net "_law_net" = true) (k_law_net : PySem.W.keepIn K (.ref f_law_net) = true)
    {f_law_right_bounds : Addr} {od_law_right_bounds an_law_right_bounds : Option Addr} {sl_law_right_bounds : Array (Option Value)} {oc_law_right_bounds kV_law_right_bounds dc_law_right_bounds pm_law_right_bounds cd_law_right_bounds ct_law_right_bounds : Value}
    (a_law_right_bounds : PySem.W.nsIn K mainGlobals "_law_right_bounds" = some (some (.ref f_law_right_bounds))) (l_law_right_bounds : K.lookup f_law_right_bounds = some ⟨oc_law_right_bounds, od_law_right_bounds, .func (PySem.W.fnOf "_law_right_bounds" "_law_right_bounds" (defArgs s_law_right_bounds) (defBody s_law_right_bounds) (defScope s_law_right_bounds) .none kV_law_right_bounds dc_law_right_bounds pm_law_right_bounds an_law_right_bounds cd_law_right_bounds ct_law_right_bounds), sl_law_right_bounds⟩) (c_law_right_bounds : PySem.W.codeIn K cd_law_right_bounds "_law_right_bounds" = true) (k_law_right_bounds : PySem.W.keepIn K (.ref f_law_right_bounds) = true)
    {f_law_is_paper : Addr} {od_law_is_paper an_law_is_paper : Option Addr} {sl_law_is_paper : Array (Option Value)} {oc_law_is_paper kV_law_is_paper dc_law_is_paper pm_law_is_paper cd_law_is_paper ct_law_is_paper : Value}
    (a_law_is_paper : PySem.W.nsIn K mainGlobals "_law_is_paper" = some (some (.ref f_law_is_paper))) (l_law_is_paper : K.lookup f_law_is_paper = some ⟨oc_law_is_paper, od_law_is_paper, .func (PySem.W.fnOf "_law_is_paper" "_law_is_paper" (defArgs s_law_is_paper) (defBody s_law_is_paper) (defScope s_law_is_paper) .none kV_law_is_paper dc_law_is_paper pm_law_is_paper an_law_is_paper cd_law_is_paper ct_law_is_paper), sl_law_is_paper⟩) (c_law_is_paper : PySem.W.codeIn K cd_law_is_paper "_law_is_paper" = true) (k_law_is_paper : PySem.W.keepIn K (.ref f_law_is_paper) = true)
    {f_law_spoilt : Addr} {od_law_spoilt an_law_spoilt : Option Addr} {sl_law_spoilt : Array (Option Value)} {oc_law_spoilt kV_law_spoilt dc_law_spoilt pm_law_spoilt cd_law_spoilt ct_law_spoilt : Value}
    (a_law_spoilt : PySem.W.nsIn K mainGlobals "_law_spoilt" = some (some (.ref f_law_spoilt))) (l_law_spoilt : K.lookup f_law_spoilt = some ⟨oc_law_spoilt, od_law_spoilt, .func (PySem.W.fnOf "_law_spoilt" "_law_spoilt" (defArgs s_law_spoilt) (defBody s_law_spoilt) (defScope s_law_spoilt) .none kV_law_spoilt dc_law_spoilt pm_law_spoilt an_law_spoilt cd_law_spoilt ct_law_spoilt), sl_law_spoilt⟩) (c_law_spoilt : PySem.W.codeIn K cd_law_spoilt "_law_spoilt" = true) (k_law_spoilt : PySem.W.keepIn K (.ref f_law_spoilt) = true)
    {f_law : Addr} {od_law an_law : Option Addr} {sl_law : Array (Option Value)} {oc_law kV_law dc_law pm_law cd_law ct_law : Value}
    (a_law : PySem.W.nsIn K mainGlobals "law" = some (some (.ref f_law))) (l_law : K.lookup f_law = some ⟨oc_law, od_law, .func (PySem.W.fnOf "law" "law" (defArgs s_law) (defBody s_law) (defScope s_law) .none kV_law dc_law pm_law an_law cd_law ct_law), sl_law⟩) (c_law : PySem.W.codeIn K cd_law "law" = true) (k_law : PySem.W.keepIn K (.ref f_law) = true)
    (n_bool : PySem.W.nsIn K mainGlobals "bool" = some none)
    (n_int : PySem.W.nsIn K mainGlobals "int" = some none)
    (n_isinstance : PySem.W.nsIn K mainGlobals "isinstance" = some none)
    (n_len : PySem.W.nsIn K mainGlobals "len" = some none)
    (n_list : PySem.W.nsIn K mainGlobals "list" = some none)
    (n_range : PySem.W.nsIn K mainGlobals "range" = some none)
    (n_tuple : PySem.W.nsIn K mainGlobals "tuple" = some none)
    : ∃ fd : FuncData, (∀ (s : Shared) (v : Value), BindsTo s fd ⟨[v], []⟩ [("_law_script", v)]) ∧ ∀ base : Heap, K.In base → base.Ns mainGlobals mg → FnOk l.prog w K mg base CX0 4 fa fd ["_law_script"] (spLaw K) := by
  have e := hfa.symm.trans (PySem.W.mg_of X G a_law)
  cases e
  have F_judge_bounds := fun_mk (st := s_judge_bounds) l_judge_bounds c_judge_bounds k_judge_bounds
  have b_judge_bounds := F_judge_bounds.binds (ps := ["net", "total", "bounds"]) fun _ _ _ _ _ _ us hl => match us, hl with | [_, _, _], _ => rfl
  have F_law_begin := fun_mk (st := s_law_begin) l_law_begin c_law_begin k_law_begin
  have b_law_begin := F_law_begin.binds (ps := ["_law_script"]) fun _ _ _ _ _ _ us hl => match us, hl with | [_], _ => rfl
  have F_law_draw := fun_mk (st := s_law_draw) l_law_draw c_law_draw k_law_draw
  have b_law_draw := F_law_draw.binds (ps := ["_law_d", "_law_many"]) fun _ _ _ _ _ _ us hl => match us, hl with | [_, _], _ => rfl
  have F_law_pick := fun_mk (st := s_law_pick) l_law_pick c_law_pick k_law_pick
  have b_law_pick := F_law_pick.binds (ps := ["_law_d", "_law_row"]) fun _ _ _ _ _ _ us hl => match us, hl with | [_, _], _ => rfl
  have F_law_net := fun_mk (st := s_law_net) l_law_net c_law_net k_law_net
  have b_law_net := F_law_net.binds (ps := ["_law_d"]) fun _ _ _ _ _ _ us hl => match us, hl with | [_], _ => rfl
  have F_law_right_bounds := fun_mk (st := s_law_right_bounds) l_law_right_bounds c_law_right_bounds k_law_right_bounds
  have b_law_right_bounds := F_law_right_bounds.binds (ps := ["_law_net_here"]) fun _ _ _ _ _ _ us hl => match us, hl with | [_], _ => rfl
  have F_law_is_paper := fun_mk (st := s_law_is_paper) l_law_is_paper c_law_is_paper k_law_is_paper
  have b_law_is_paper := F_law_is_paper.binds (ps := ["_law_net_here", "_law_total", "_law_paper"]) fun _ _ _ _ _ _ us hl => match us, hl with | [_, _, _], _ => rfl
  have F_law_spoilt := fun_mk (st := s_law_spoilt) l_law_spoilt c_law_spoilt k_law_spoilt
  have b_law_spoilt := F_law_spoilt.binds (ps := ["_law_d", "_law_paper"]) fun _ _ _ _ _ _ us hl => match us, hl with | [_, _], _ => rfl
  have F_law := fun_mk (st := s_law) l_law c_law k_law
  have b_law := F_law.binds (ps := ["_law_script"]) fun _ _ _ _ _ _ us hl => match us, hl with | [_], _ => rfl
  exact ⟨PySem.W.fnOf "law" "law" (defArgs s_law) (defBody s_law) (defScope s_law) .none kV_law dc_law pm_law an_law cd_law ct_law, fun s v => .of_eq rfl, fun base _ _ => ok_law (T := {
    a_judge_bounds := _,
    d_judge_bounds := _,
    D_judge_bounds := ⟨F_judge_bounds, PySem.W.mg_of X G a_judge_bounds, b_judge_bounds, ⟨_, _, _, _, _, _, rfl⟩⟩,
    a_law_begin := _,
    d_law_begin := _,
    D_law_begin := ⟨F_law_begin, PySem.W.mg_of X G a_law_begin, b_law_begin, ⟨_, _, _, _, _, _, rfl⟩⟩,
    a_law_draw := _,
    d_law_draw := _,
    D_law_draw := ⟨F_law_draw, PySem.W.mg_of X G a_law_draw, b_law_draw, ⟨_, _, _, _, _, _, rfl⟩⟩,
    a_law_pick := _,
    d_law_pick := _,
    D_law_pick := ⟨F_law_pick, PySem.W.mg_of X G a_law_pick, b_law_pick, ⟨_, _, _, _, _, _, rfl⟩⟩,
    a_law_net := _,
    d_law_net := _,
    D_law_net := ⟨F_law_net, PySem.W.mg_of X G a_law_net, b_law_net, ⟨_, _, _, _, _, _, rfl⟩⟩,
    a_law_right_bounds := _,
    d_law_right_bounds := _,
    D_law_right_bounds := ⟨F_law_right_bounds, PySem.W.mg_of X G a_law_right_bounds, b_law_right_bounds, ⟨_, _, _, _, _, _, rfl⟩⟩,
    a_law_is_paper := _,
    d_law_is_paper := _,
    D_law_is_paper := ⟨F_law_is_paper, PySem.W.mg_of X G a_law_is_paper, b_law_is_paper, ⟨_, _, _, _, _, _, rfl⟩⟩,
    a_law_spoilt := _,
    d_law_spoilt := _,
    D_law_spoilt := ⟨F_law_spoilt, PySem.W.mg_of X G a_law_spoilt, b_law_spoilt, ⟨_, _, _, _, _, _, rfl⟩⟩,
    a_law := _,
    d_law := _,
    D_law := ⟨F_law, PySem.W.mg_of X G a_law, b_law, ⟨_, _, _, _, _, _, rfl⟩⟩,
    n_bool := PySem.W.mg_none_of X G n_bool,
    n_int := PySem.W.mg_none_of X G n_int,
    n_isinstance := PySem.W.mg_none_of X G n_isinstance,
    n_len := PySem.W.mg_none_of X G n_len,
    n_list := PySem.W.mg_none_of X G n_list,
    n_range := PySem.W.mg_none_of X G n_range,
    n_tuple := PySem.W.mg_none_of X G n_tuple })⟩
end Vf
open PySem PySem.W PyProof.Rows
set_option maxHeartbeats 0 in
theorem PySem.Challenge.cw_hushedpages_k02_bounds_judged_holds : PySem.Challenge.rw_hushedpages_k02_bounds_judged.Holds := by
  w_on; o_law; k_head; (case hw => w_witness2)
  k_fill
  refine L2.walk_of (l := PySem.Challenge.rw_hushedpages_k02_bounds_judged) (n := 63) (k := 4) (x := "_law_script") (CX := fun _ => L2.CX0) (sp := fun w => Vf.spLaw _) rfl (by decide) rfl ⟨rfl, by decide, by decide⟩ (fun w h Y => PySem.W.kIn_of Y) ?F (fun _ _ a ns hl _ hS => ⟨a, ns, rfl, hS, hl, fun _ => rfl⟩) (fun _ _ _ _ _ h => h)
  case F =>
    intro w mg fa h KX G hmg
    refine' Vf.all_mk KX G hmg ?a_judge_bounds ?l_judge_bounds ?c_judge_bounds ?k_judge_bounds ?a_law_begin ?l_law_begin ?c_law_begin ?k_law_begin ?a_law_draw ?l_law_draw ?c_law_draw ?k_law_draw ?a_law_pick ?l_law_pick ?c_law_pick ?k_law_pick ?a_law_net ?l_law_net ?c_law_net ?k_law_net ?a_law_right_bounds ?l_law_right_bounds ?c_law_right_bounds ?k_law_right_bounds ?a_law_is_paper ?l_law_is_paper ?c_law_is_paper ?k_law_is_paper ?a_law_spoilt ?l_law_spoilt ?c_law_spoilt ?k_law_spoilt ?a_law ?l_law ?c_law ?k_law ?n_bool ?n_int ?n_isinstance ?n_len ?n_list ?n_range ?n_tuple
    (case a_judge_bounds => k_is)
    (case l_judge_bounds => k_is)
    (case c_judge_bounds => k_is)
    (case k_judge_bounds => k_is)
    (case a_law_begin => k_is)
    (case l_law_begin => k_is)
    (case c_law_begin => k_is)
    (case k_law_begin => k_is)
    (case a_law_draw => k_is)
    (case l_law_draw => k_is)
    (case c_law_draw => k_is)
    (case k_law_draw => k_is)
    (case a_law_pick => k_is)
    (case l_law_pick => k_is)
    (case c_law_pick => k_is)
    (case k_law_pick => k_is)
    (case a_law_net => k_is)
    (case l_law_net => k_is)
    (case c_law_net => k_is)
    (case k_law_net => k_is)
    (case a_law_right_bounds => k_is)
    (case l_law_right_bounds => k_is)
    (case c_law_right_bounds => k_is)
    (case k_law_right_bounds => k_is)
    (case a_law_is_paper => k_is)
    (case l_law_is_paper => k_is)
    (case c_law_is_paper => k_is)
    (case k_law_is_paper => k_is)
    (case a_law_spoilt => k_is)
    (case l_law_spoilt => k_is)
    (case c_law_spoilt => k_is)
    (case k_law_spoilt => k_is)
    (case a_law => k_is)
    (case l_law => k_is)
    (case c_law => k_is)
    (case k_law => k_is)
    (case n_bool => k_is)
    (case n_int => k_is)
    (case n_isinstance => k_is)
    (case n_len => k_is)
    (case n_list => k_is)
    (case n_range => k_is)
    (case n_tuple => k_is)
