import PyProof.Rows.All
import Wide.All
import OpenK.AllK
import Wide.FinOn
import HandS.ForMost
import HandS.IsInst
import HandS.Conv
import HandS.Evl
import PyProof.StrBlock2
import HandS.ExcInit
import HandS.ExcIs
import HandS.ExcField
import HandS.Wide
import HandS.TupAny
import HandS.Steps
import PySem.Challenge.RW_hushedpages_k06_trees_written
set_option Elab.async false
set_option linter.all false
set_option maxRecDepth 100000
set_option maxHeartbeats 4000000
namespace Vf
open PySem PySem.Spec PyProof.Rows L2
def topS (i : Nat) : Stmt := PySem.Challenge.pw_hushedpages_k06_trees_written.main.body.getD i (.Pass ⟨0, 0, 0, 0⟩)
abbrev s_write_tree : Stmt := topS 1
theorem sc_write_tree : FnScope ["tree", "tokens"] ["tree"] (defScope s_write_tree) := ⟨rfl, rfl, rfl, by decide +kernel, rfl, by decide +kernel, by decide +kernel⟩
abbrev s_put_tokens : Stmt := topS 2
theorem sc_put_tokens : FnScope ["tree", "tokens", "node"] ["tree", "tokens"] (defScope s_put_tokens) := ⟨rfl, rfl, rfl, by decide +kernel, rfl, by decide +kernel, by decide +kernel⟩
abbrev s_put_call : Stmt := topS 3
theorem sc_put_call : FnScope ["node", "tokens", "argument"] ["node", "tokens"] (defScope s_put_call) := ⟨rfl, rfl, rfl, by decide +kernel, rfl, by decide +kernel, by decide +kernel⟩
abbrev s_law_begin : Stmt := topS 5
theorem sc_law_begin : FnScope ["_law_script"] ["_law_script"] (defScope s_law_begin) := ⟨rfl, rfl, rfl, by decide +kernel, rfl, by decide +kernel, by decide +kernel⟩
abbrev s_law_draw : Stmt := topS 6
theorem sc_law_draw : FnScope ["_law_d", "_law_many", "_law_cell", "_law_found"] ["_law_d", "_law_many"] (defScope s_law_draw) := ⟨rfl, rfl, rfl, by decide +kernel, rfl, by decide +kernel, by decide +kernel⟩
abbrev s_law_pick : Stmt := topS 7
theorem sc_law_pick : FnScope ["_law_d", "_law_row"] ["_law_d", "_law_row"] (defScope s_law_pick) := ⟨rfl, rfl, rfl, by decide +kernel, rfl, by decide +kernel, by decide +kernel⟩
abbrev s_law_rare : Stmt := topS 8
theorem sc_law_rare : FnScope ["_law_d", "_law_many"] ["_law_d", "_law_many"] (defScope s_law_rare) := ⟨rfl, rfl, rfl, by decide +kernel, rfl, by decide +kernel, by decide +kernel⟩
abbrev s_law_word : Stmt := topS 9
theorem sc_law_word : FnScope ["_law_d", "_law_low", "_law_high", "_law_long", "_law_signs", "_law_k"] ["_law_d", "_law_low", "_law_high"] (defScope s_law_word) := ⟨rfl, rfl, rfl, by decide +kernel, rfl, by decide +kernel, by decide +kernel⟩
abbrev s_law_exact : Stmt := topS 10
theorem sc_law_exact : FnScope ["_law_told", "_law_due", "_law_k"] ["_law_told", "_law_due"] (defScope s_law_exact) := ⟨rfl, rfl, rfl, by decide +kernel, rfl, by decide +kernel, by decide +kernel⟩
abbrev s_law_word_signs : Stmt := topS 11
theorem sc_law_word_signs : FnScope [] [] (defScope s_law_word_signs) := ⟨rfl, rfl, rfl, by decide +kernel, rfl, by decide +kernel, by decide +kernel⟩
abbrev s_law_run : Stmt := topS 12
theorem sc_law_run : FnScope ["_law_d", "_law_signs", "_law_size", "_law_k"] ["_law_d", "_law_signs", "_law_size"] (defScope s_law_run) := ⟨rfl, rfl, rfl, by decide +kernel, rfl, by decide +kernel, by decide +kernel⟩
abbrev s_law_some_word : Stmt := topS 13
theorem sc_law_some_word : FnScope ["_law_d", "_law_kind"] ["_law_d"] (defScope s_law_some_word) := ⟨rfl, rfl, rfl, by decide +kernel, rfl, by decide +kernel, by decide +kernel⟩
abbrev s_law_some_name : Stmt := topS 14
theorem sc_law_some_name : FnScope ["_law_d", "_law_kind", "_law_names"] ["_law_d"] (defScope s_law_some_name) := ⟨rfl, rfl, rfl, by decide +kernel, rfl, by decide +kernel, by decide +kernel⟩
abbrev s_law_tree : Stmt := topS 15
theorem sc_law_tree : FnScope ["_law_d", "_law_deep", "_law_left", "_law_nodes", "_law_many", "_law_k", "_law_args", "_law_wide", "_law_a"] ["_law_d", "_law_deep", "_law_left"] (defScope s_law_tree) := ⟨rfl, rfl, rfl, by decide +kernel, rfl, by decide +kernel, by decide +kernel⟩
abbrev s_law_wrapped : Stmt := topS 16
theorem sc_law_wrapped : FnScope ["_law_d", "_law_tree_here", "_law_args", "_law_call", "_law_beside"] ["_law_d", "_law_tree_here"] (defScope s_law_wrapped) := ⟨rfl, rfl, rfl, by decide +kernel, rfl, by decide +kernel, by decide +kernel⟩
abbrev s_law_drawn_tree : Stmt := topS 17
theorem sc_law_drawn_tree : FnScope ["_law_d", "_law_most", "_law_around", "_law_left", "_law_tree_here", "_law_k"] ["_law_d", "_law_most"] (defScope s_law_drawn_tree) := ⟨rfl, rfl, rfl, by decide +kernel, rfl, by decide +kernel, by decide +kernel⟩
abbrev s_law_tokens_in : Stmt := topS 18
theorem sc_law_tokens_in : FnScope ["_law_tree_here", "_law_found", "_law_node", "_law_inner"] ["_law_tree_here"] (defScope s_law_tokens_in) := ⟨rfl, rfl, rfl, by decide +kernel, rfl, by decide +kernel, by decide +kernel⟩
abbrev s_law_token_walk : Stmt := topS 19
theorem sc_law_token_walk : FnScope ["_law_d", "_law_many", "_law_most", "_law_tokens", "_law_k", "_law_depth", "_law_menu", "_law_deed", "_law_free"] ["_law_d", "_law_many", "_law_most"] (defScope s_law_token_walk) := ⟨rfl, rfl, rfl, by decide +kernel, rfl, by decide +kernel, by decide +kernel⟩
abbrev s_law_tree_of : Stmt := topS 20
theorem sc_law_tree_of : FnScope ["_law_tokens", "_law_levels", "_law_token", "_law_inner", "_law_call"] ["_law_tokens"] (defScope s_law_tree_of) := ⟨rfl, rfl, rfl, by decide +kernel, rfl, by decide +kernel, by decide +kernel⟩
abbrev s_law_nothing_defined : Stmt := topS 21
theorem sc_law_nothing_defined : FnScope ["_law_tree_here", "_law_node"] ["_law_tree_here"] (defScope s_law_nothing_defined) := ⟨rfl, rfl, rfl, by decide +kernel, rfl, by decide +kernel, by decide +kernel⟩
abbrev s_law_world : Stmt := topS 22
theorem sc_law_world : FnScope ["_law_d", "_law_tree_here", "_law_tokens"] ["_law_d"] (defScope s_law_world) := ⟨rfl, rfl, rfl, by decide +kernel, rfl, by decide +kernel, by decide +kernel⟩
abbrev s_law : Stmt := topS 23
theorem sc_law : FnScope ["_law_script", "_law_d", "_law_worlds", "_law_k", "_law_tree_here", "_law_due"] ["_law_script"] (defScope s_law) := ⟨rfl, rfl, rfl, by decide +kernel, rfl, by decide +kernel, by decide +kernel⟩
structure DefAt (K : PySem.W.Frag) (mg : Str → Option Value) (x : Str) (st : Stmt) (ps : List Str) (f : Addr) (fd : FuncData) : Prop where
  F : Fun K x x st f fd
  G : mg x = some (.ref f)
  B : Binds K fd ps []
  E : ∃ kV doc pm an cdv ct, fd = PySem.W.fnOf x x (defArgs st) (defBody st) (defScope st) .none kV doc pm an cdv ct
structure Txt (K : PySem.W.Frag) (mg : Str → Option Value) where
  a_write_tree : Addr
  d_write_tree : FuncData
  D_write_tree : DefAt K mg "write_tree" s_write_tree ["tree"] a_write_tree d_write_tree
  a_put_tokens : Addr
  d_put_tokens : FuncData
  D_put_tokens : DefAt K mg "_put_tokens" s_put_tokens ["tree", "tokens"] a_put_tokens d_put_tokens
  a_put_call : Addr
  d_put_call : FuncData
  D_put_call : DefAt K mg "_put_call" s_put_call ["node", "tokens"] a_put_call d_put_call
  a_law_begin : Addr
  d_law_begin : FuncData
  D_law_begin : DefAt K mg "_law_begin" s_law_begin ["_law_script"] a_law_begin d_law_begin
  a_law_draw : Addr
  d_law_draw : FuncData
  D_law_draw : DefAt K mg "_law_draw" s_law_draw ["_law_d", "_law_many"] a_law_draw d_law_draw
  a_law_pick : Addr
  d_law_pick : FuncData
  D_law_pick : DefAt K mg "_law_pick" s_law_pick ["_law_d", "_law_row"] a_law_pick d_law_pick
  a_law_rare : Addr
  d_law_rare : FuncData
  D_law_rare : DefAt K mg "_law_rare" s_law_rare ["_law_d", "_law_many"] a_law_rare d_law_rare
  a_law_word : Addr
  d_law_word : FuncData
  D_law_word : DefAt K mg "_law_word" s_law_word ["_law_d", "_law_low", "_law_high"] a_law_word d_law_word
  a_law_exact : Addr
  d_law_exact : FuncData
  D_law_exact : DefAt K mg "_law_exact" s_law_exact ["_law_told", "_law_due"] a_law_exact d_law_exact
  a_law_word_signs : Addr
  d_law_word_signs : FuncData
  D_law_word_signs : DefAt K mg "_law_word_signs" s_law_word_signs [] a_law_word_signs d_law_word_signs
  a_law_run : Addr
  d_law_run : FuncData
  D_law_run : DefAt K mg "_law_run" s_law_run ["_law_d", "_law_signs", "_law_size"] a_law_run d_law_run
  a_law_some_word : Addr
  d_law_some_word : FuncData
  D_law_some_word : DefAt K mg "_law_some_word" s_law_some_word ["_law_d"] a_law_some_word d_law_some_word
  a_law_some_name : Addr
  d_law_some_name : FuncData
  D_law_some_name : DefAt K mg "_law_some_name" s_law_some_name ["_law_d"] a_law_some_name d_law_some_name
  a_law_tree : Addr
  d_law_tree : FuncData
  D_law_tree : DefAt K mg "_law_tree" s_law_tree ["_law_d", "_law_deep", "_law_left"] a_law_tree d_law_tree
  a_law_wrapped : Addr
  d_law_wrapped : FuncData
  D_law_wrapped : DefAt K mg "_law_wrapped" s_law_wrapped ["_law_d", "_law_tree_here"] a_law_wrapped d_law_wrapped
  a_law_drawn_tree : Addr
  d_law_drawn_tree : FuncData
  D_law_drawn_tree : DefAt K mg "_law_drawn_tree" s_law_drawn_tree ["_law_d", "_law_most"] a_law_drawn_tree d_law_drawn_tree
  a_law_tokens_in : Addr
  d_law_tokens_in : FuncData
  D_law_tokens_in : DefAt K mg "_law_tokens_in" s_law_tokens_in ["_law_tree_here"] a_law_tokens_in d_law_tokens_in
  a_law_token_walk : Addr
  d_law_token_walk : FuncData
  D_law_token_walk : DefAt K mg "_law_token_walk" s_law_token_walk ["_law_d", "_law_many", "_law_most"] a_law_token_walk d_law_token_walk
  a_law_tree_of : Addr
  d_law_tree_of : FuncData
  D_law_tree_of : DefAt K mg "_law_tree_of" s_law_tree_of ["_law_tokens"] a_law_tree_of d_law_tree_of
  a_law_nothing_defined : Addr
  d_law_nothing_defined : FuncData
  D_law_nothing_defined : DefAt K mg "_law_nothing_defined" s_law_nothing_defined ["_law_tree_here"] a_law_nothing_defined d_law_nothing_defined
  a_law_world : Addr
  d_law_world : FuncData
  D_law_world : DefAt K mg "_law_world" s_law_world ["_law_d"] a_law_world d_law_world
  a_law : Addr
  d_law : FuncData
  D_law : DefAt K mg "law" s_law ["_law_script"] a_law d_law
  n_bool : mg "bool" = none
  n_int : mg "int" = none
  n_isinstance : mg "isinstance" = none
  n_len : mg "len" = none
  n_list : mg "list" = none
  n_range : mg "range" = none
  n_str : mg "str" = none
  n_tuple : mg "tuple" = none
/-! ### the dice -/
/-- at d the dice, at l the script's copy -/
structure DI (d l : Addr) (H : Hp) : Prop where
  ne : l ≠ d
  sc : ∃ ns : List Int, H l = some (.lst (ns.map V.int))
  st : ∃ i b s c : Int, 0 ≤ i ∧ H d = some (.lst [.ref l, .int i, .int b, .int s, .int c])
/-- all but the dice stands -/
def Kp (d : Addr) (H H' : Hp) : Prop := ∀ b o, b ≠ d → H b = some o → H' b = some o
theorem Kp.refl (d : Addr) (H : Hp) : Kp d H H := fun _ _ _ h => h
theorem Kp.trans {d : Addr} {H H1 H2 : Hp} (a : Kp d H H1) (b : Kp d H1 H2) : Kp d H H2 := fun x o n h => b x o n (a x o n h)
theorem Kp.upd {d : Addr} {H H' : Hp} {o : HO} (a : Kp d H H') : Kp d H (upd H' d o) := fun x u n h => by
  rw [upd_ne n]; exact a x u n h
theorem Kp.new {d p : Addr} {H H' : Hp} {o : HO} (a : Kp d H H') (hp : H' p = none) : Kp d H (L2.upd H' p o) := fun x u n h => by
  have h2 := a x u n h
  rw [upd_ne (ne_of_none h2 hp)]; exact h2
theorem Kp.mut {d p : Addr} {H H' : Hp} {o : HO} (a : Kp d H H') (hp : H p = none) : Kp d H (L2.upd H' p o) := fun x u n h => by
  rw [upd_ne (ne_of_none h hp)]; exact a x u n h
theorem Kp.sq {K : PySem.W.Frag} {d a : Addr} {H H' : Hp} {xs : List V} (k : Kp d H H') (n : a ≠ d) (h : SqL K H a xs) : SqL K H' a xs := by
  rcases h with (h | ⟨o, h⟩) | h
  · exact .inl (.inl (k _ _ n h))
  · exact .inl (.inr ⟨o, k _ _ n h⟩)
  · exact .inr h
theorem DI.keep {d l : Addr} {H H' : Hp} (h : DI d l H) (e : ∀ b o, H b = some o → H' b = some o) : DI d l H' := by
  obtain ⟨n, ⟨ns, h1⟩, i, b, s, c, h0, h2⟩ := h
  exact ⟨n, ⟨ns, e _ _ h1⟩, i, b, s, c, h0, e _ _ h2⟩
theorem DI.at {d l p : Addr} {H : Hp} {o : HO} (h : DI d l H) (n1 : p ≠ d) (n2 : p ≠ l) : DI d l (upd H p o) := by
  obtain ⟨n, ⟨ns, h1⟩, i, b, s, c, h0, h2⟩ := h
  exact ⟨n, ⟨ns, by rw [upd_ne n2.symm]; exact h1⟩, i, b, s, c, h0, by rw [upd_ne n1.symm]; exact h2⟩
theorem DI.new {d l p : Addr} {H : Hp} {o : HO} (h : DI d l H) (hp : H p = none) : DI d l (upd H p o) :=
  h.keep fun b u e => by rw [upd_ne (ne_of_none e hp)]; exact e
theorem DI.nd {d l p : Addr} {H : Hp} (h : DI d l H) (hp : H p = none) : p ≠ d ∧ p ≠ l := by
  obtain ⟨n, ⟨ns, h1⟩, i, b, s, c, h0, h2⟩ := h
  exact ⟨fun e => (by rw [e, h2] at hp; cases hp), fun e => (by rw [e, h1] at hp; cases hp)⟩
theorem DI.set {d l : Addr} {H : Hp} {i b s c : Int} (h : DI d l H) (h0 : 0 ≤ i) : DI d l (upd H d (.lst [.ref l, .int i, .int b, .int s, .int c])) := by
  obtain ⟨n, ⟨ns, h1⟩, _⟩ := h
  exact ⟨n, ⟨ns, by rw [upd_ne n]; exact h1⟩, i, b, s, c, h0, upd_same⟩
section
variable {P : Program} {w : World} {K : PySem.W.Frag} {mg : Str → Option Value} {base : Heap}
/-! ### begin -/
def spBegin (K : PySem.W.Frag) : Sp := fun vs H Q _ => ∃ (a : Addr) (ns : List Int), vs = [.ref a] ∧ SqL K H a (ns.map V.int) ∧ ns.length ≤ 63 ∧
  ∀ H' d l, Same H H' → DI d l H' → Q (.ref d) H'
theorem ok_begin (T : Txt K mg) : FnOk P w K mg base CX0 1 T.a_law_begin T.d_law_begin ["_law_script"] (spBegin K) := by
  refine T.D_law_begin.F.ok sc_law_begin (fun vs H Q E h => ?_) (fun cdv A outer s H vs Q E hr h => ?_)
  · obtain ⟨a, ns, rfl, _⟩ := h
    rfl
  · obtain ⟨a, ns, rfl, hS, hl, q⟩ := h
    refine ⟨_, (pss_one (ps_ret (pe_lst (pa_cons (pe_callTy call_list_of (by rfl) T.n_list (by decide +kernel) (pa_cons (pv 0) pa_nil)) (pa_cons pe_int (pa_cons pe_int (pa_cons pe_int (pa_cons pe_int pa_nil)))))))), ?_⟩
    refine ⟨_, rfl, a, _, rfl, .inl hS, fun l nl => ?_⟩
    refine ⟨by show 5 ≤ sizeLine; decide, fun d nd => ?_⟩
    refine q _ d l (fun b o e => ?_) ?_
    · have n1 : b ≠ l := ne_of_none e nl
      have e1 : upd H l (.lst (ns.map V.int)) b = some o := by rw [upd_ne n1]; exact e
      rw [upd_ne (ne_of_none e1 nd)]
      exact e1
    · have e1 : upd H l (.lst (ns.map V.int)) l = some (.lst (ns.map V.int)) := upd_same
      have n1 : l ≠ d := ne_of_none e1 nd
      exact ⟨n1, ⟨ns, by rw [upd_ne n1]; exact e1⟩, 0, 0, 7, 0, by decide, upd_same⟩
/-! ### draw -/
def spDraw : Sp := fun vs H Q _ => ∃ (d l : Addr) (m : Int), vs = [.ref d, .int m] ∧ DI d l H ∧ m ≤ 1000000 ∧
  ∀ H' r, Kp d H H' → DI d l H' → (m < 2 → r = 0) → (2 ≤ m → 0 ≤ r ∧ r < m) → Q (.int r) H'
theorem ok_draw (T : Txt K mg) : FnOk P w K mg base CX0 1 T.a_law_draw T.d_law_draw ["_law_d", "_law_many"] spDraw := by
  refine T.D_law_draw.F.ok sc_law_draw (fun vs H Q E h => ?_) (fun cdv A outer s H vs Q E hr h => ?_)
  · obtain ⟨d, l, m, rfl, _⟩ := h
    rfl
  · obtain ⟨d, l, m, rfl, hD, hm, q⟩ := h
    refine ⟨_, (pss_cons (ps_if (pt_cmpR op_lt (pv 1) pe_int (nomark _)) (pss_one (ps_ret pe_int)) pss_nil)
      (pss_cons (ps_set (i := 2) sc_law_draw.nd rfl (.inl rfl) (pe_op op_add (pe_op op_mul (pe_ix ix_list (pv 0) pe_int (fun _ _ => rfl)) pe_int) pe_int))
      (Evl.pss_cut (ps_if (PW.pt (pw_and (pt_cmpR op_eq (pe_ix ix_list (pv 0) pe_int (fun _ _ => rfl)) pe_int (nomark _)) (pw_and1 (pt_cmpR op_lt (pe_ix ix_list (pv 0) pe_int (fun _ _ => rfl)) (pe_callB call_len_seq (by rfl) T.n_len PySem.boot_len (pa_cons (pe_ix ix_list (pv 0) pe_int (fun _ _ => rfl)) pa_nil)) (nomark _))))) (pss_cons (ps_set (i := 2) sc_law_draw.nd rfl (.inl rfl) (pe_ix ix_list (pe_ix ix_list (pv 0) pe_int (fun _ _ => rfl)) (pe_ix ix_list (pv 0) pe_int (fun _ _ => rfl)) (fun _ _ => rfl)))
      (pss_cons (ps_asg (pe_op op_add (pe_ix ix_list (pv 0) pe_int (fun _ _ => rfl)) pe_int) (pg_sub (pv 0) pe_int set_list))
      (Evl.pss_cut (ps_if (pt_cmpR op_lt (pv 2) pe_int (nomark _)) (pss_one (ps_set (i := 2) sc_law_draw.nd rfl (.inl rfl) (pe_op op_sub pe_int (pe_op op_mul pe_int (pv 2))))) pss_nil)
      (pss_one (ps_if (pt_cmpR op_ge (pv 2) pe_int (nomark _)) (pss_cons (ps_set (i := 2) sc_law_draw.nd rfl (.inl rfl) (pe_op op_and (pv 2) (pe_op op_sub (pe_op op_shl pe_int pe_int) pe_int)))
      (pss_one (ps_asg (pv 2) (pg_sub (pv 0) pe_int set_list)))) pss_nil))))) pss_nil)
      (pss_cons (ps_if (pt_cmpR op_gt (pe_ix ix_list (pv 0) pe_int (fun _ _ => rfl)) pe_int (nomark _)) (pss_cons (ps_set (i := 3) sc_law_draw.nd rfl (.inl rfl) (pe_op op_modN (pe_callTy call_int1 (by rfl) T.n_int (by decide +kernel) (pa_cons (pe_ix ix_list (pv 0) pe_int (fun _ _ => rfl)) pa_nil)) (pv 1)))
      (pss_cons (ps_asg (pe_op op_fdivN (pe_ix ix_list (pv 0) pe_int (fun _ _ => rfl)) (pv 1)) (pg_sub (pv 0) pe_int set_list))
      (pss_one (ps_ret (pv 3))))) pss_nil)
      (pss_cons (ps_asg (pe_op op_add (pe_ix ix_list (pv 0) pe_int (fun _ _ => rfl)) pe_int) (pg_sub (pv 0) pe_int set_list))
      (pss_cons (ps_asg (pe_op op_modN (pe_callTy call_int1 (by rfl) T.n_int (by decide +kernel) (pa_cons (pe_op op_add (pe_op op_add (pe_op op_mul (pe_ix ix_list (pv 0) pe_int (fun _ _ => rfl)) pe_int) (pe_op op_mul (pv 2) pe_int)) (pe_op op_mul (pe_ix ix_list (pv 0) pe_int (fun _ _ => rfl)) pe_int)) pa_nil)) pe_int) (pg_sub (pv 0) pe_int set_list))
      (pss_one (ps_ret (pe_op op_modN (pe_callTy call_int1 (by rfl) T.n_int (by decide +kernel) (pa_cons (pe_op op_modN (pe_callTy call_int1 (by rfl) T.n_int (by decide +kernel) (pa_cons (pe_op op_add (pe_op op_add (pe_op op_mul (pe_ix ix_list (pv 0) pe_int (fun _ _ => rfl)) pe_int) (pe_op op_mul (pe_ix ix_list (pv 0) pe_int (fun _ _ => rfl)) pe_int)) pe_int) pa_nil)) pe_int) pa_nil)) (pv 1)))))))))), ?_⟩
    refine ⟨_, rfl, _, _, rfl, rfl, _, rfl, ite2 (fun e => ?_) (fun e => ?_)⟩
    · have e := of_decide_eq_true e
      exact q H 0 (Kp.refl d H) hD (fun _ => rfl) (fun z => by omega)
    have hm2 : 2 ≤ m := by
      have e2 : ¬ m < 2 := fun z => e (decide_eq_true z)
      omega
    have hmN : m ≠ 0 := by omega
    have hmA : m.natAbs < 1073741824 := by omega
    have fm : ∀ z : Int, 0 ≤ z.fmod m ∧ z.fmod m < m := fun z => ⟨Int.fmod_nonneg_of_pos z (by omega), Int.fmod_lt_of_pos z (by omega)⟩
    obtain ⟨n, ⟨ns, h1⟩, i, b, s5, c, h0, h2⟩ := id hD
    -- cell = d[4] * 977 + 3
    refine ⟨_, rfl, _, _, _, _, rfl, rfl, SqL.of h2, rfl, _, _, rfl, rfl, .inr ⟨by decide, by decide⟩, _, _, rfl, rfl, ?_⟩
    refine ⟨fun σ' H' => ∃ (cell : Int) (x3 : Option V), σ' = [some (.ref d), some (.int m), some (.int cell), x3] ∧ Kp d H H' ∧ DI d l H', ?_, ?_⟩
    · -- the cell
      refine ⟨_, rfl, _, _, _, _, rfl, rfl, SqL.of h2, rfl, rfl, _, rfl, ite2 (fun e1 => ?_) (fun e1 => ?_)⟩
      · refine ⟨_, rfl, _, _, _, _, rfl, rfl, SqL.of h2, rfl, _, rfl, _, _, _, _, rfl, rfl, SqL.of h2, rfl, _, _, rfl, .inl (SqL.of h1), _, _, rfl, rfl, _, rfl, ite2 (fun e2 => ?_) (fun e2 => ?_)⟩
        · have e2 := of_decide_eq_true e2
          rw [List.length_map] at e2
          obtain ⟨j, rfl⟩ : ∃ j : Nat, i = (j : Int) := ⟨i.toNat, by omega⟩
          have hj : j < ns.length := by omega
          have gj : (ns.map V.int)[j]? = some (.int ns[j]) := by
            rw [List.getElem?_map, List.getElem?_eq_getElem hj]; rfl
          refine ⟨_, rfl, _, _, _, _, rfl, rfl, SqL.of h2, rfl, _, rfl, _, _, _, _, rfl, rfl, SqL.of h2, rfl, _, _, _, _, rfl, rfl, SqL.of h1, atI_nat gj, ?_⟩
          -- d[1] = d[1] + 1
          refine ⟨_, rfl, _, _, _, _, rfl, rfl, SqL.of h2, rfl, _, _, rfl, rfl, _, rfl, _, _, _, _, rfl, rfl, h2, rfl, ?_⟩
          have D1 := hD.set (i := (j : Int) + 1) (b := b) (s := s5) (c := c) (by omega)
          have K1 : Kp d H (upd H d (.lst [.ref l, .int ((j : Int) + 1), .int b, .int s5, .int c])) := (Kp.refl d H).upd
          refine ⟨fun σ' H' => ∃ (cell : Int) (x3 : Option V), σ' = [some (.ref d), some (.int m), some (.int cell), x3] ∧ H' = upd H d (.lst [.ref l, .int ((j : Int) + 1), .int b, .int s5, .int c]), ?_, ?_⟩
          · refine ⟨_, rfl, _, _, rfl, rfl, _, rfl, ite2 (fun _ => ?_) (fun _ => ?_)⟩
            · exact ⟨_, rfl, _, _, rfl, rfl, .inl ⟨by decide, by decide⟩, _, _, rfl, rfl, _, _, rfl, rfl⟩
            · exact ⟨_, _, rfl, rfl⟩
          · rintro σ' H' ⟨cell, x3, rfl, rfl⟩
            refine ⟨_, rfl, _, _, rfl, rfl, _, rfl, ite2 (fun _ => ?_) (fun _ => ?_)⟩
            · refine ⟨_, rfl, _, _, rfl, rfl, ⟨by decide, by decide, by decide⟩, _, _, rfl, rfl, _, _, rfl, rfl, ?_⟩
              refine ⟨_, rfl, _, rfl, _, _, _, _, rfl, rfl, upd_same, rfl, ?_⟩
              exact ⟨_, _, rfl, K1.upd, D1.set (by omega)⟩
            · exact ⟨_, _, rfl, K1, D1⟩
        · exact ⟨_, _, rfl, Kp.refl d H, hD⟩
      · exact ⟨_, _, rfl, Kp.refl d H, hD⟩
    · rintro σ' H1 ⟨cell, x3, rfl, K1, D1⟩
      obtain ⟨n, ⟨ns, h1⟩, i, b, s5, c, h0, h2⟩ := id D1
      refine ⟨_, rfl, _, _, _, _, rfl, rfl, SqL.of h2, rfl, _, _, rfl, rfl, _, rfl, ite2 (fun e1 => ?_) (fun e1 => ?_)⟩
      · refine ⟨_, rfl, _, _, _, _, rfl, rfl, SqL.of h2, rfl, .inl ⟨_, rfl, _, rfl, _, _, rfl, rfl, hmN, ?_⟩⟩
        refine ⟨_, rfl, _, _, _, _, rfl, rfl, SqL.of h2, rfl, _, rfl, _, _, rfl, rfl, ⟨hmN, hmA⟩, _, rfl, _, _, _, _, rfl, rfl, h2, rfl, ?_⟩
        exact ⟨_, rfl, q _ _ K1.upd (D1.set h0) (fun z => by omega) (fun _ => fm _)⟩
      · refine ⟨_, rfl, _, _, _, _, rfl, rfl, SqL.of h2, rfl, _, _, rfl, rfl, _, rfl, _, _, _, _, rfl, rfl, h2, rfl, ?_⟩
        refine ⟨_, rfl, _, _, _, _, rfl, rfl, SqL.of upd_same, rfl, _, _, rfl, rfl, .inr ⟨by decide, by decide⟩, _, rfl, _, _, rfl, rfl, .inr ⟨by decide, by decide⟩, _, _, rfl, rfl, _, rfl, _, _, _, _, rfl, rfl, SqL.of upd_same, rfl, _, _, rfl, rfl, .inr ⟨by decide, by decide⟩, _, _, rfl, rfl, .inl ⟨_, rfl, _, _, rfl, rfl, (by show (2147483647 : Int) ≠ 0; decide), _, rfl, _, _, _, _, rfl, rfl, upd_same, rfl, ?_⟩⟩
        refine ⟨_, rfl, _, _, _, _, rfl, rfl, SqL.of upd_same, rfl, _, _, rfl, rfl, .inr ⟨by decide, by decide⟩, _, rfl, _, _, _, _, rfl, rfl, SqL.of upd_same, rfl, _, _, rfl, rfl, .inr ⟨by decide, by decide⟩, _, _, rfl, rfl, _, _, rfl, rfl, .inl ⟨_, rfl, _, _, rfl, rfl, (by show (2147483399 : Int) ≠ 0; decide), .inl ⟨_, rfl, _, rfl, _, _, rfl, rfl, hmN, ?_⟩⟩⟩
        exact q _ _ K1.upd.upd ((D1.set h0).set h0) (fun z => by omega) (fun _ => fm _)
end
end Vf

set_option Elab.async false
set_option linter.all false
set_option maxRecDepth 100000
set_option maxHeartbeats 4000000
namespace Vf
open PySem PySem.Spec PyProof.Rows L2 TL
/-! ### the mathematics of tokens -/
def sW : Str := "abcdefghijklmnopqrstuvwxyz0123456789.,:;!?'()+=<>*/"
def sL : Str := "abcdefghijklmnopqrstuvwxyz"
def sB : Str := " \n"
def sOdd : Str := "\"#$&-ABCDEFGHIJKLMNOPQRSTUVWXYZ[\\]^_`|~"
def cW (c : Nat) : Bool := decide (c ∈ sW.cps.toList)
def cL (c : Nat) : Bool := decide (c ∈ sL.cps.toList)
def cB (c : Nat) : Bool := decide (c ∈ sB.cps.toList)
/-- the text of these signs -/
def mkS (zs : List Nat) : Str := ⟨zs.toArray⟩
def sV (zs : List Nat) : V := .str (mkS zs)
theorem mkS_cps (zs : List Nat) : (mkS zs).cps.toList = zs := rfl
theorem mkS_of (z : Str) : mkS z.cps.toList = z := rfl
theorem mkS_len (zs : List Nat) : (mkS zs).length = zs.length := by simp [mkS, Str.length]
theorem len_cps (z : Str) : z.length = z.cps.toList.length := by simp [Str.length]
theorem mkS_app (a b : List Nat) : mkS a ++ mkS b = mkS (a ++ b) := by
  have h : (mkS a ++ mkS b).cps.toList = a ++ b := by rw [Str.cps_append, Array.toList_append]; rfl
  rw [← h]
  rfl
theorem mkS_inj {a b : List Nat} (h : mkS a = mkS b) : a = b := by
  have h2 := congrArg (fun z : Str => z.cps.toList) h
  exact h2
theorem sW_list : sW.cps.toList = [97,98,99,100,101,102,103,104,105,106,107,108,109,110,111,112,113,114,115,116,117,118,119,120,121,122,48,49,50,51,52,53,54,55,56,57,46,44,58,59,33,63,39,40,41,43,61,60,62,42,47] := by decide +kernel
theorem sL_list : sL.cps.toList = [97,98,99,100,101,102,103,104,105,106,107,108,109,110,111,112,113,114,115,116,117,118,119,120,121,122] := by decide +kernel
theorem sB_list : sB.cps.toList = [32, 10] := by decide +kernel
theorem cL_W {c : Nat} (h : cL c = true) : cW c = true := by
  have h1 := of_decide_eq_true h
  refine decide_eq_true ?_
  rw [sL_list] at h1
  rw [sW_list]
  rw [show ([97,98,99,100,101,102,103,104,105,106,107,108,109,110,111,112,113,114,115,116,117,118,119,120,121,122,48,49,50,51,52,53,54,55,56,57,46,44,58,59,33,63,39,40,41,43,61,60,62,42,47] : List Nat) = [97,98,99,100,101,102,103,104,105,106,107,108,109,110,111,112,113,114,115,116,117,118,119,120,121,122] ++ [48,49,50,51,52,53,54,55,56,57,46,44,58,59,33,63,39,40,41,43,61,60,62,42,47] from rfl]
  exact List.mem_append_left _ h1
theorem cW_B {c : Nat} (h : cW c = true) : cB c = false := by
  refine decide_eq_false fun h2 => ?_
  rw [sB_list] at h2
  have h1 := of_decide_eq_true h
  rw [sW_list] at h1
  simp only [List.mem_cons, List.not_mem_nil, or_false] at h2
  rcases h2 with rfl | rfl
  · exact absurd h1 (by decide)
  · exact absurd h1 (by decide)
theorem cW_at : cW 64 = false := by
  unfold cW
  rw [sW_list]
  decide
theorem cB_at : cB 64 = false := by
  unfold cB
  rw [sB_list]
  decide
theorem cW_ne {c : Nat} (h : cW c = true) : c ≠ 64 := fun e => by
  rw [e, cW_at] at h
  cases h
theorem drop_le {α : Type} (p : α → Bool) : ∀ l : List α, (l.dropWhile p).length ≤ l.length
  | [] => Nat.le_refl _
  | c :: r => by
    rw [List.dropWhile_cons]
    split
    · exact Nat.le_trans (drop_le p r) (Nat.le_succ _)
    · exact Nat.le_refl _
/-- the tokens of a text -/
def tokF : Nat → List Nat → List (List Nat)
  | 0, _ => []
  | _ + 1, [] => []
  | n + 1, c :: r =>
    if cB c then tokF n r else if c = 64 then (c :: r.takeWhile cL) :: tokF n (r.dropWhile cL)
    else if cW c then (c :: r.takeWhile cW) :: tokF n (r.dropWhile cW) else [c] :: tokF n r
theorem tokF_more : ∀ (n m : Nat) (zs : List Nat), zs.length ≤ n → zs.length ≤ m → tokF n zs = tokF m zs
  | 0, 0, _, _, _ => rfl
  | 0, m + 1, zs, h, _ => by
    have e : zs = [] := List.length_eq_zero_iff.mp (Nat.le_zero.mp h)
    subst e
    rfl
  | n + 1, 0, zs, _, h => by
    have e : zs = [] := List.length_eq_zero_iff.mp (Nat.le_zero.mp h)
    subst e
    rfl
  | n + 1, m + 1, [], _, _ => rfl
  | n + 1, m + 1, c :: r, h1, h2 => by
    have a1 : r.length ≤ n := Nat.le_of_succ_le_succ h1
    have a2 : r.length ≤ m := Nat.le_of_succ_le_succ h2
    have d1 := drop_le cL r
    have d2 := drop_le cW r
    show (if cB c then tokF n r else if c = 64 then (c :: r.takeWhile cL) :: tokF n (r.dropWhile cL) else if cW c then (c :: r.takeWhile cW) :: tokF n (r.dropWhile cW) else [c] :: tokF n r) =
      (if cB c then tokF m r else if c = 64 then (c :: r.takeWhile cL) :: tokF m (r.dropWhile cL) else if cW c then (c :: r.takeWhile cW) :: tokF m (r.dropWhile cW) else [c] :: tokF m r)
    rw [tokF_more n m r a1 a2, tokF_more n m _ (Nat.le_trans d1 a1) (Nat.le_trans d1 a2), tokF_more n m _ (Nat.le_trans d2 a1) (Nat.le_trans d2 a2)]
def tok (zs : List Nat) : List (List Nat) := tokF zs.length zs
theorem tok_nil : tok [] = [] := rfl
theorem tok_cons (c : Nat) (r : List Nat) : tok (c :: r) = if cB c then tok r else if c = 64 then (c :: r.takeWhile cL) :: tok (r.dropWhile cL)
    else if cW c then (c :: r.takeWhile cW) :: tok (r.dropWhile cW) else [c] :: tok r := by
  show (if cB c then tokF r.length r else if c = 64 then (c :: r.takeWhile cL) :: tokF r.length (r.dropWhile cL) else if cW c then (c :: r.takeWhile cW) :: tokF r.length (r.dropWhile cW) else [c] :: tokF r.length r) = _
  rw [tokF_more r.length (r.dropWhile cL).length (r.dropWhile cL) (drop_le _ _) (Nat.le_refl _), tokF_more r.length (r.dropWhile cW).length (r.dropWhile cW) (drop_le _ _) (Nat.le_refl _)]
  rfl
/-! #### what the law's own walk has found, and how it goes on -/
def cont : Nat → List (List Nat) → List Nat → List (List Nat)
  | 1, f, r => f.dropLast ++ ((f.getLast?.getD []) ++ r.takeWhile cW) :: tok (r.dropWhile cW)
  | 2, f, r => f.dropLast ++ ((f.getLast?.getD []) ++ r.takeWhile cL) :: tok (r.dropWhile cL)
  | _, f, r => f ++ tok r
theorem cont0 (f : List (List Nat)) (r : List Nat) : cont 0 f r = f ++ tok r := rfl
theorem cont1 (g : List (List Nat)) (t r : List Nat) : cont 1 (g ++ [t]) r = g ++ (t ++ r.takeWhile cW) :: tok (r.dropWhile cW) := by
  show (g ++ [t]).dropLast ++ (((g ++ [t]).getLast?.getD []) ++ r.takeWhile cW) :: tok (r.dropWhile cW) = _
  rw [List.dropLast_concat, List.getLast?_concat]; rfl
theorem cont2 (g : List (List Nat)) (t r : List Nat) : cont 2 (g ++ [t]) r = g ++ (t ++ r.takeWhile cL) :: tok (r.dropWhile cL) := by
  show (g ++ [t]).dropLast ++ (((g ++ [t]).getLast?.getD []) ++ r.takeWhile cL) :: tok (r.dropWhile cL) = _
  rw [List.dropLast_concat, List.getLast?_concat]; rfl
/-- a sign that goes on -/
theorem cont1_on {c : Nat} (h : cW c = true) (g : List (List Nat)) (t r : List Nat) : cont 1 (g ++ [t]) (c :: r) = cont 1 (g ++ [t ++ [c]]) r := by
  rw [cont1, cont1, List.takeWhile_cons_of_pos h, List.dropWhile_cons_of_pos h, List.append_assoc]; rfl
theorem cont2_on {c : Nat} (h : cL c = true) (g : List (List Nat)) (t r : List Nat) : cont 2 (g ++ [t]) (c :: r) = cont 2 (g ++ [t ++ [c]]) r := by
  rw [cont2, cont2, List.takeWhile_cons_of_pos h, List.dropWhile_cons_of_pos h, List.append_assoc]; rfl
/-- a sign that doesn't -/
theorem cont1_off {c : Nat} (h : cW c = false) (g : List (List Nat)) (t r : List Nat) : cont 1 (g ++ [t]) (c :: r) = cont 0 (g ++ [t]) (c :: r) := by
  rw [cont1, cont0, List.takeWhile_cons_of_neg (by rw [h]; decide), List.dropWhile_cons_of_neg (by rw [h]; decide), List.append_nil, List.append_assoc]; rfl
theorem cont2_off {c : Nat} (h : cL c = false) (g : List (List Nat)) (t r : List Nat) : cont 2 (g ++ [t]) (c :: r) = cont 0 (g ++ [t]) (c :: r) := by
  rw [cont2, cont0, List.takeWhile_cons_of_neg (by rw [h]; decide), List.dropWhile_cons_of_neg (by rw [h]; decide), List.append_nil, List.append_assoc]; rfl
theorem cont_blank {c : Nat} (h : cB c = true) (f : List (List Nat)) (r : List Nat) : cont 0 f (c :: r) = cont 0 f r := by
  rw [cont0, cont0, tok_cons, if_pos h]
theorem cont_at (f : List (List Nat)) (r : List Nat) : cont 0 f (64 :: r) = cont 2 (f ++ [[64]]) r := by
  rw [cont0, cont2, tok_cons, if_neg (by rw [cB_at]; decide), if_pos rfl]; rfl
theorem cont_word {c : Nat} (h : cW c = true) (f : List (List Nat)) (r : List Nat) : cont 0 f (c :: r) = cont 1 (f ++ [[c]]) r := by
  rw [cont0, cont1, tok_cons, if_neg (by rw [cW_B h]; decide), if_neg (cW_ne h), if_pos h]; rfl
theorem cont_odd {c : Nat} (hb : cB c = false) (h : cW c = false) (ha : c ≠ 64) (f : List (List Nat)) (r : List Nat) : cont 0 f (c :: r) = cont 0 (f ++ [[c]]) r := by
  rw [cont0, cont0, tok_cons, if_neg (by rw [hb]; decide), if_neg ha, if_neg (by rw [h]; decide), List.append_assoc]; rfl
theorem cont_end1 (g : List (List Nat)) (t : List Nat) : cont 1 (g ++ [t]) [] = g ++ [t] := by
  rw [cont1]; show g ++ [t ++ []] = _; rw [List.append_nil]
theorem cont_end2 (g : List (List Nat)) (t : List Nat) : cont 2 (g ++ [t]) [] = g ++ [t] := by
  rw [cont2]; show g ++ [t ++ []] = _; rw [List.append_nil]
theorem cont_end0 (f : List (List Nat)) : cont 0 f [] = f := by
  rw [cont0, tok_nil, List.append_nil]
/-! #### tokens put together -/
/-- blanks and line feeds alone -/
def Bl (g : List Nat) : Prop := ∀ c ∈ g, cB c = true
/-- a token -/
def Tk (t : List Nat) : Prop := (∃ c, t = [c] ∧ cB c = false ∧ cW c = false ∧ c ≠ 64) ∨ (∃ r, t = 64 :: r ∧ ∀ c ∈ r, cL c = true) ∨ (t ≠ [] ∧ ∀ c ∈ t, cW c = true)
/-- the one runs on into the other -/
def runs (t u : List Nat) : Bool := if t.headD 0 = 64 then cL (u.headD 0) else cW (t.headD 0) && cW (u.headD 0)
theorem tok_gap : ∀ (g r : List Nat), Bl g → tok (g ++ r) = tok r
  | [], _, _ => rfl
  | c :: g, r, h => by
    rw [List.cons_append, tok_cons, if_pos (h c List.mem_cons_self)]
    exact tok_gap g r fun z hz => h z (List.mem_cons_of_mem _ hz)
theorem take_all {p : Nat → Bool} : ∀ (t r : List Nat), (∀ c ∈ t, p c = true) → (∀ c r', r = c :: r' → p c = false) → (t ++ r).takeWhile p = t ∧ (t ++ r).dropWhile p = r
  | [], [], _, _ => ⟨rfl, rfl⟩
  | [], c :: r, _, h => by
    have e := h c r rfl
    rw [List.nil_append, List.takeWhile_cons_of_neg (by rw [e]; decide), List.dropWhile_cons_of_neg (by rw [e]; decide)]
    exact ⟨rfl, rfl⟩
  | c :: t, r, ht, h => by
    have ⟨a, b⟩ := take_all t r (fun z hz => ht z (List.mem_cons_of_mem _ hz)) h
    rw [List.cons_append, List.takeWhile_cons_of_pos (ht c List.mem_cons_self), List.dropWhile_cons_of_pos (ht c List.mem_cons_self), a, b]
    exact ⟨rfl, rfl⟩
theorem tok_tok {t r : List Nat} (h : Tk t) (hr : r = [] ∨ runs t r = false) : tok (t ++ r) = t :: tok r := by
  rcases h with ⟨c, rfl, hb, hw, ha⟩ | ⟨u, rfl, hu⟩ | ⟨hn, hw⟩
  · show tok (c :: r) = _
    rw [tok_cons, if_neg (by rw [hb]; decide), if_neg ha, if_neg (by rw [hw]; decide)]
  · have hs : ∀ c r', r = c :: r' → cL c = false := by
      intro c r' e
      rcases hr with z | z
      · rw [z] at e; cases e
      · subst e; exact z
    have ⟨a, b⟩ := take_all u r hu hs
    rw [List.cons_append, tok_cons, if_neg (by rw [cB_at]; decide), if_pos rfl, a, b]
  · cases t with
    | nil => exact absurd rfl hn
    | cons c u =>
      have hc := hw c List.mem_cons_self
      have hs : ∀ x r', r = x :: r' → cW x = false := by
        intro x r' e
        rcases hr with z | z
        · rw [z] at e; cases e
        · subst e
          unfold runs at z
          rw [show (c :: u).headD 0 = c from rfl, if_neg (cW_ne hc), hc] at z
          exact z
      have ⟨a, b⟩ := take_all u r (fun z hz => hw z (List.mem_cons_of_mem _ hz)) hs
      rw [List.cons_append, tok_cons, if_neg (by rw [cW_B hc]; decide), if_neg (cW_ne hc), if_pos hc, a, b]
/-- tokens and the gaps behind them, put into one row -/
def mixed : List (List Nat) → List (List Nat) → List Nat
  | t :: ts, g :: gs => t ++ (g ++ mixed ts gs)
  | _, _ => []
/-- what is asked of a gap behind token k -/
def need (ts : List (List Nat)) (k : Nat) : Bool := match ts[k]?, ts[k + 1]? with
  | some t, some u => runs t u
  | _, _ => false
theorem runs_bl {t g r : List Nat} (hn : g ≠ []) (hg : Bl g) : runs t (g ++ r) = false := by
  cases g with
  | nil => exact absurd rfl hn
  | cons c g =>
    have hb := hg c List.mem_cons_self
    have hw : cW c = false := by
      cases e : cW c with
      | false => rfl
      | true => rw [cW_B e] at hb; cases hb
    have hl : cL c = false := by
      cases e : cL c with
      | false => rfl
      | true => rw [cL_W e] at hw; cases hw
    unfold runs
    rw [List.cons_append]
    show (if t.headD 0 = 64 then cL c else cW (t.headD 0) && cW c) = false
    rw [hl, hw, Bool.and_false]
    split <;> rfl
theorem runs_head {t u r : List Nat} (hu : u ≠ []) : runs t (u ++ r) = runs t u := by
  cases u with
  | nil => exact absurd rfl hu
  | cons c u => rfl
theorem Tk.ne {t : List Nat} (h : Tk t) : t ≠ [] := by
  rcases h with ⟨c, rfl, _⟩ | ⟨r, rfl, _⟩ | ⟨h, _⟩
  · exact fun e => by cases e
  · exact fun e => by cases e
  · exact h
theorem tok_mixed : ∀ (ts gs : List (List Nat)), (∀ t ∈ ts, Tk t) → gs.length = ts.length → (∀ k g, gs[k]? = some g → Bl g ∧ (need ts k = true → g ≠ [])) → tok (mixed ts gs) = ts
  | [], [], _, _, _ => rfl
  | [], _ :: _, _, h, _ => by cases h
  | _ :: _, [], _, h, _ => by cases h
  | t :: ts, g :: gs, ht, hl, hg => by
    have ih := tok_mixed ts gs (fun u hu => ht u (List.mem_cons_of_mem _ hu)) (Nat.succ.inj hl) (fun k g' e => by
      have := hg (k + 1) g' e
      exact this)
    obtain ⟨hb, hne⟩ := hg 0 g rfl
    show tok (t ++ (g ++ mixed ts gs)) = t :: ts
    rw [tok_tok (ht t List.mem_cons_self), tok_gap g _ hb, ih]
    by_cases e : g = []
    · subst e
      rw [List.nil_append]
      cases ts with
      | nil => exact .inl (by cases gs <;> rfl)
      | cons u us =>
        cases gs with
        | nil => cases hl
        | cons g2 gs2 =>
          refine .inr ?_
          show runs t (u ++ (g2 ++ mixed us gs2)) = false
          rw [runs_head (ht u (List.mem_cons_of_mem _ List.mem_cons_self)).ne]
          cases q : runs t u with
          | false => rfl
          | true => exact absurd rfl (hne q)
    · exact .inr (runs_bl e hb)
/-! #### small things -/
theorem take_succ' {α : Type} {l : List α} {i : Nat} {x : α} (h : l[i]? = some x) : l.take (i + 1) = l.take i ++ [x] := by
  rw [List.take_add_one, h]; rfl
theorem big_ok {n : Nat} (h : n ≤ 100000) : n ≤ sizeLine := Nat.le_trans h (by decide)
theorem get_sV {ts : List (List Nat)} {i : Nat} {t : List Nat} (h : ts[i]? = some t) : (ts.map sV)[i]? = some (sV t) := by
  rw [List.getElem?_map, h]; rfl
theorem drop_at {zs : List Nat} {i c : Nat} (h : zs[i]? = some c) : zs.drop i = c :: zs.drop (i + 1) := by
  have ⟨h1, h2⟩ := List.getElem?_eq_some_iff.mp h
  rw [List.drop_eq_getElem_cons h1, h2]
theorem same_mut {H H' : Hp} {p : Addr} {o : HO} (a : Same H H') (hp : H p = none) : Same H (upd H' p o) := fun x u h => by
  rw [upd_ne (ne_of_none h hp)]; exact a x u h
theorem same_upd {H H' : Hp} {p : Addr} {o : HO} (a : Same H H') (hp : H' p = none) : Same H (upd H' p o) := fun x u h => by
  have h2 := a x u h
  rw [upd_ne (ne_of_none h2 hp)]; exact h2
theorem dec_sign (c : Nat) (z : Str) (e : Nat) (hz : z = mkS [e]) : decide (V.str ⟨#[c]⟩ = V.str z) = decide (c = e) := by
  rw [hz]
  by_cases h : c = e
  · subst h; rw [decide_eq_true rfl]; exact decide_eq_true rfl
  · rw [decide_eq_false h]
    refine decide_eq_false fun q => h ?_
    have e2 : mkS [c] = mkS [e] := V.str.inj q
    have e3 := mkS_inj e2
    injection e3
theorem tf (b : Bool) : b = true ∨ b = false := by cases b <;> simp
theorem bl_of {p : Prop} [Decidable p] {b : Bool} (h : decide p = b) : V.bl (decide p) = V.bl b := congrArg V.bl h
theorem at_mk : (("@" : Str)) = mkS [64] := by decide +kernel
/-! ### texts put together -/
theorem empty_mk : (("" : Str)) = mkS [] := by decide +kernel
theorem map_sV (zss : List (List Nat)) : zss.map sV = (zss.map mkS).map V.str := by
  rw [List.map_map]; rfl
theorem sum_len : ∀ zss : List (List Nat), ((zss.map mkS).map (·.length)).sum = zss.flatten.length
  | [] => rfl
  | z :: r => by
    rw [List.map_cons, List.map_cons, List.sum_cons, sum_len r, List.flatten_cons, List.length_append, mkS_len]
theorem joinL_nil : ∀ zss : List (List Nat), joinL [] zss = zss.flatten
  | [] => rfl
  | [z] => by show z = z ++ []; rw [List.append_nil]
  | z :: y :: r => by
    show z ++ ([] ++ joinL [] (y :: r)) = z ++ (y :: r).flatten
    rw [List.nil_append, joinL_nil (y :: r)]
theorem join_mk (zss : List (List Nat)) : Txt.join ("" : Str) (zss.map mkS) = mkS zss.flatten := by
  have h : tl (Txt.join ("" : Str) (zss.map mkS)) = zss.flatten := by
    rw [join_eq, tl_join, show (zss.map mkS).map tl = zss from (by rw [List.map_map]; exact List.map_id'' (fun _ => rfl) zss), empty_mk]
    exact joinL_nil zss
  rw [← h]; rfl
theorem flat_len {B : Nat} : ∀ {zss : List (List Nat)}, (∀ z ∈ zss, z.length ≤ B) → zss.flatten.length ≤ zss.length * B
  | [], _ => Nat.zero_le _
  | z :: r, h => by
    have ih := flat_len (zss := r) fun y hy => h y (List.mem_cons_of_mem _ hy)
    have hz := h z List.mem_cons_self
    rw [List.flatten_cons, List.length_append, List.length_cons, Nat.succ_mul]
    omega
theorem flat_one : ∀ {zss : List (List Nat)}, (∀ z ∈ zss, z.length = 1) → zss.flatten.length = zss.length
  | [], _ => rfl
  | z :: r, h => by
    rw [List.flatten_cons, List.length_append, List.length_cons, flat_one fun y hy => h y (List.mem_cons_of_mem _ hy), h z List.mem_cons_self]
    omega
theorem blank_mk : ((" " : Str)) = mkS [32] := by decide +kernel
theorem feed_mk : (("\n" : Str)) = mkS [10] := by decide +kernel
end Vf

set_option Elab.async false
set_option linter.all false
set_option maxRecDepth 100000
set_option maxHeartbeats 4000000
namespace Vf
open PySem PySem.Spec PyProof.Rows L2 TL
/-- what the list of a comprehension holds: texts -/
def PvS (R : List Nat → Prop) (d l : Addr) (H : Hp) (D : Addr) (i : Nat) (H' : Hp) : Prop :=
  ∃ zss : List (List Nat), zss.length = i ∧ (∀ zs ∈ zss, R zs) ∧ Kp d H H' ∧ DI d l H' ∧ H' D = some (.lst (zss.map sV))
theorem PvS.start {R : List Nat → Prop} {d l D : Addr} {H : Hp} (hD : DI d l H) (nD : H D = none) : PvS R d l H D 0 (upd H D (.lst [])) :=
  ⟨[], rfl, (fun _ h => nomatch h), (Kp.refl d H).new nD, hD.new nD, upd_same⟩
theorem PvS.dice {R : List Nat → Prop} {d l D : Addr} {H H1 : Hp} {i : Nat} (p : PvS R d l H D i H1) : DI d l H1 := by
  obtain ⟨_, _, _, _, h, _⟩ := p
  exact h
theorem PvS.step {R : List Nat → Prop} {d l D : Addr} {H H1 H2 : Hp} {i : Nat} {zs : List Nat} (hD : DI d l H) (nD : H D = none) (p : PvS R d l H D i H1) (hi : i < 100000) (K2 : Kp d H1 H2) (D2 : DI d l H2) (r : R zs) :
    ∃ acc, H2 D = some (.lst acc) ∧ acc.length < sizeLine ∧ PvS R d l H D (i + 1) (upd H2 D (.lst (acc ++ [sV zs]))) := by
  obtain ⟨zss, hl, hR, K1, D1, e1⟩ := p
  have n1 := hD.nd nD
  have e2 : H2 D = some (.lst (zss.map sV)) := K2 _ _ n1.1 e1
  refine ⟨_, e2, ?_, zss ++ [zs], ?_, ?_, (K1.trans K2).mut nD, D2.at n1.1 n1.2, ?_⟩
  · rw [List.length_map, hl]
    exact Nat.lt_of_lt_of_le hi (by decide)
  · rw [List.length_append, hl]; rfl
  · intro z hz
    rcases List.mem_append.mp hz with h | h
    · exact hR z h
    · rw [List.mem_singleton.mp h]; exact r
  · rw [upd_same, List.map_append]; rfl
section
variable {P : Program} {w : World} {K : PySem.W.Frag} {mg : Str → Option Value} {base : Heap}
/-! ### pick, rare -/
/-- what is picked from -/
def Row (K : PySem.W.Frag) (H : Hp) (d : Addr) (row : V) (xs : List V) : Prop :=
  (∃ a, row = .ref a ∧ a ≠ d ∧ SqL K H a xs) ∨ ∃ zs, row = sV zs ∧ xs = zs.map fun c => sV [c]
def spPick (K : PySem.W.Frag) : Sp := fun vs H Q _ => ∃ (d l : Addr) (row : V) (xs : List V), vs = [.ref d, row] ∧ DI d l H ∧ Row K H d row xs ∧ 0 < xs.length ∧ xs.length ≤ 1000 ∧
  ∀ H' v, Kp d H H' → DI d l H' → v ∈ xs → Q v H'
theorem at_draw {xs : List V} {r : Int} (h : 0 < xs.length) (h1 : (xs.length : Int) < 2 → r = 0) (h2 : 2 ≤ (xs.length : Int) → 0 ≤ r ∧ r < (xs.length : Int)) :
    ∃ (j : Nat) (hj : j < xs.length), r = (j : Int) := by
  by_cases h3 : 2 ≤ (xs.length : Int)
  · have ⟨a, b⟩ := h2 h3
    exact ⟨r.toNat, by omega, by omega⟩
  · exact ⟨0, h, by rw [h1 (by omega)]; rfl⟩
theorem ok_pick (T : Txt K mg) : FnOk P w K mg base CX0 2 T.a_law_pick T.d_law_pick ["_law_d", "_law_row"] (spPick K) := by
  have G_law_draw : FnOk P w K mg base CX0 1 T.a_law_draw T.d_law_draw ["_law_d", "_law_many"] spDraw := ok_draw T
  refine T.D_law_pick.F.ok sc_law_pick (fun vs H Q E h => ?_) (fun cdv A outer s H vs Q E hr h => ?_)
  · obtain ⟨d, l, row, xs, rfl, _⟩ := h
    rfl
  · obtain ⟨d, l, row, xs, rfl, hD, hR, h0, hx, q⟩ := h
    refine ⟨_, (pss_one (ps_ret (pe_ix ix_seq (pv 1) (pe_call G_law_draw (hr.mono (by decide)) (by rfl) T.D_law_draw.G T.D_law_draw.F.kp T.D_law_draw.B .nil pass0 (pa_cons (pv 0) (pa_cons (pe_callB call_len (by rfl) T.n_len PySem.boot_len (pa_cons (pv 1) pa_nil)) pa_nil))) (fun _ _ => rfl)))), ?_⟩
    have hlen : LenV K row H xs.length := by
      rcases hR with ⟨a, rfl, _, hS⟩ | ⟨zs, rfl, rfl⟩
      · exact .inl ⟨_, hS, rfl⟩
      · rw [List.length_map] at hx ⊢
        refine ⟨?_, (mkS_len zs).symm⟩
        rw [mkS_len]
        exact Nat.le_trans hx (by decide)
    refine ⟨_, rfl, _, rfl, _, rfl, _, _, rfl, hlen, d, l, _, rfl, hD, by omega, fun H' r k D' e1 e2 => ?_⟩
    obtain ⟨j, hj, rfl⟩ := at_draw h0 e1 e2
    rcases hR with ⟨a, rfl, nd, hS⟩ | ⟨zs, rfl, rfl⟩
    · exact .inl ⟨a, xs, _, xs[j], rfl, rfl, k.sq nd hS, atI_nat (List.getElem?_eq_getElem hj), q H' _ k D' (List.getElem_mem hj)⟩
    · have hj2 : j < zs.length := by rw [List.length_map] at hj; exact hj
      refine .inr (.inr ⟨mkS zs, _, zs[j], rfl, rfl, ?_, ?_, q H' _ k D' (List.mem_map.mpr ⟨zs[j], List.getElem_mem hj2, rfl⟩)⟩)
      · rw [mkS_len]; rw [List.length_map] at hx; exact Nat.le_trans hx (by decide)
      · rw [mkS_cps]; exact atI_nat (List.getElem?_eq_getElem hj2)
def spRare : Sp := fun vs H Q _ => ∃ (d l : Addr) (m : Int), vs = [.ref d, .int m] ∧ DI d l H ∧ m ≤ 1000000 ∧ ∀ H' b, Kp d H H' → DI d l H' → Q (.bl b) H'
theorem ok_rare (T : Txt K mg) : FnOk P w K mg base CX0 2 T.a_law_rare T.d_law_rare ["_law_d", "_law_many"] spRare := by
  have G_law_draw : FnOk P w K mg base CX0 1 T.a_law_draw T.d_law_draw ["_law_d", "_law_many"] spDraw := ok_draw T
  refine T.D_law_rare.F.ok sc_law_rare (fun vs H Q E h => ?_) (fun cdv A outer s H vs Q E hr h => ?_)
  · obtain ⟨d, l, m, rfl, _⟩ := h
    rfl
  · obtain ⟨d, l, m, rfl, hD, hm, q⟩ := h
    refine ⟨_, (pss_one (ps_ret (pe_cmpR op_eq (pe_call G_law_draw (hr.mono (by decide)) (by rfl) T.D_law_draw.G T.D_law_draw.F.kp T.D_law_draw.B .nil pass0 (pa_cons (pv 0) (pa_cons (pv 1) pa_nil))) (pe_op op_fdivN (pe_op op_mul (pv 1) pe_int) pe_int) (nomark _)))), ?_⟩
    refine ⟨_, rfl, _, rfl, d, l, m, rfl, hD, hm, fun H' r k D' e1 e2 => ?_⟩
    exact ⟨_, rfl, _, _, rfl, rfl, .inr ⟨by decide, by decide⟩, _, _, rfl, rfl, ⟨by decide, by decide⟩, rfl, q H' _ k D'⟩
/-! ### run, word -/
def spRun : Sp := fun vs H Q _ => ∃ (d l : Addr) (cs : List Nat) (n : Int), vs = [.ref d, sV cs, .int n] ∧ DI d l H ∧ 0 < cs.length ∧ cs.length ≤ 1000 ∧ 0 ≤ n ∧ n ≤ 1000 ∧
  ∀ H' zs, Kp d H H' → DI d l H' → (zs.length : Int) = n → (∀ c ∈ zs, c ∈ cs) → Q (sV zs) H'
/-- texts of one sign each -/
def One (cs zs : List Nat) : Prop := ∃ c, zs = [c] ∧ c ∈ cs
theorem one_flat {cs : List Nat} : ∀ {zss : List (List Nat)}, (∀ z ∈ zss, One cs z) → zss.flatten.length = zss.length ∧ ∀ c ∈ zss.flatten, c ∈ cs
  | [], _ => ⟨rfl, fun _ h => nomatch h⟩
  | z :: r, h => by
    obtain ⟨c, rfl, hc⟩ := h z List.mem_cons_self
    have ⟨a, b⟩ := one_flat (zss := r) fun y hy => h y (List.mem_cons_of_mem _ hy)
    rw [List.flatten_cons]
    refine ⟨by rw [List.length_append, a]; show 1 + r.length = r.length + 1; omega, fun x hx => ?_⟩
    rcases List.mem_append.mp hx with e | e
    · rw [List.mem_singleton.mp e]; exact hc
    · exact b x e
theorem pick_one {d l : Addr} {cs : List Nat} {H : Hp} {Q : VK} (hD : DI d l H) (h0 : 0 < cs.length) (hx : cs.length ≤ 1000) (q : ∀ H' zs, Kp d H H' → DI d l H' → One cs zs → Q (sV zs) H') : spPick K [.ref d, sV cs] H Q E0 := by
  refine ⟨d, l, _, _, rfl, hD, .inr ⟨cs, rfl, rfl⟩, by rw [List.length_map]; exact h0, by rw [List.length_map]; exact hx, fun H' v k D' hv => ?_⟩
  obtain ⟨c, hc, rfl⟩ := List.mem_map.mp hv
  exact q H' _ k D' ⟨c, rfl, hc⟩
theorem ok_run (T : Txt K mg) : FnOk P w K mg base CX0 3 T.a_law_run T.d_law_run ["_law_d", "_law_signs", "_law_size"] spRun := by
  have G_law_pick : FnOk P w K mg base CX0 2 T.a_law_pick T.d_law_pick ["_law_d", "_law_row"] (spPick K) := ok_pick T
  refine T.D_law_run.F.ok sc_law_run (fun vs H Q E h => ?_) (fun cdv A outer s H vs Q E hr h => ?_)
  · obtain ⟨d, l, cs, n, rfl, _⟩ := h
    rfl
  · obtain ⟨d, l, cs, n, rfl, hD, h0, hx, hn0, hn, q⟩ := h
    refine ⟨_, (pss_one (ps_ret (pe_join pe_str (pe_lc (own := [("_law_k", 3)]) (g := gName 3) (tt := tYes) rfl sc_law_run.nd (pi_range1 (by rfl) T.n_range (pa_cons (pv 2) pa_nil)) (blkOk_by (own := [("_law_k", 3)]) (N := ["_law_d", "_law_signs", "_law_size", "_law_k"]) (sc := defScope s_law_run) (by decide +kernel)) (fun _ _ _ _ _ => (pg_name (i := 3) sc_law_run.nd rfl (.inl rfl))) (fun _ _ _ _ _ => pts_nil) (fun _ _ _ _ _ => (pe_call G_law_pick (hr.mono (by decide)) (by rfl) T.D_law_pick.G T.D_law_pick.F.kp T.D_law_pick.B .nil pass0 (pa_cons (pv 0) (pa_cons (pv 1) pa_nil)))))))), ?_⟩
    refine ⟨⟨_, rfl⟩, _, rfl, n, rfl, by omega, by omega, ?_⟩
    refine fun D nD => lc_range (lo := 0) (n := n.toNat) (PvS (One cs) d l H D) (PvS.start hD nD) (fun i H1 hi p => ⟨rfl, ?_⟩) (fun H' p => ?_)
    · exact ⟨_, rfl, _, rfl, pick_one p.dice h0 hx fun H2 zs k2 d2 r => p.step hD nD (by omega) k2 d2 r⟩
    · obtain ⟨zss, hl, hR, K1, D1, e1⟩ := p
      have ⟨f1, f2⟩ := one_flat hR
      refine ⟨_, D, zss.map mkS, rfl, rfl, .inl (SqL.of (by rw [e1, map_sV])), ?_, ?_⟩
      · rw [sum_len, f1, show (("" : Str)).length = 0 from by rw [empty_mk, mkS_len]; rfl]; omega
      · rw [join_mk]
        exact q H' _ K1 D1 (by rw [f1, hl]; omega) f2
def spWord : Sp := fun vs H Q _ => ∃ (d l : Addr) (lo hi : Int), vs = [.ref d, .int lo, .int hi] ∧ DI d l H ∧ 0 ≤ lo ∧ lo ≤ hi ∧ hi ≤ 900 ∧
  ∀ H' zs, Kp d H H' → DI d l H' → lo ≤ (zs.length : Int) → (zs.length : Int) ≤ hi → (∀ c ∈ zs, cW c = true) → Q (sV zs) H'
theorem ok_word (T : Txt K mg) : FnOk P w K mg base CX0 3 T.a_law_word T.d_law_word ["_law_d", "_law_low", "_law_high"] spWord := by
  have G_law_draw : FnOk P w K mg base CX0 1 T.a_law_draw T.d_law_draw ["_law_d", "_law_many"] spDraw := ok_draw T
  have G_law_pick : FnOk P w K mg base CX0 2 T.a_law_pick T.d_law_pick ["_law_d", "_law_row"] (spPick K) := ok_pick T
  refine T.D_law_word.F.ok sc_law_word (fun vs H Q E h => ?_) (fun cdv A outer s H vs Q E hr h => ?_)
  · obtain ⟨d, l, lo, hi, rfl, _⟩ := h
    rfl
  · obtain ⟨d, l, lo, hi, rfl, hD, h0, hlo, hhi, q⟩ := h
    refine ⟨_, (pss_cons (ps_set (i := 3) sc_law_word.nd rfl (.inl rfl) (pe_op op_add (pv 1) (pe_call G_law_draw (hr.mono (by decide)) (by rfl) T.D_law_draw.G T.D_law_draw.F.kp T.D_law_draw.B .nil pass0 (pa_cons (pv 0) (pa_cons (pe_op op_add (pe_op op_sub (pv 2) (pv 1)) pe_int) pa_nil)))))
      (pss_cons (ps_set (i := 4) sc_law_word.nd rfl (.inr rfl) (pe_call G_law_pick (hr.mono (by decide)) (by rfl) T.D_law_pick.G T.D_law_pick.F.kp T.D_law_pick.B .nil pass0 (pa_cons (pv 0) (pa_cons (pe_lst (pa_cons pe_str (pa_cons pe_str (pa_cons pe_str (pa_cons pe_str (pa_cons pe_str (pa_cons pe_str pa_nil))))))) pa_nil))))
      (pss_one (ps_ret (pe_join pe_str (pe_lc (own := [("_law_k", 5)]) (g := gName 5) (tt := tYes) rfl sc_law_word.nd (pi_range1 (by rfl) T.n_range (pa_cons (pv 3) pa_nil)) (blkOk_by (own := [("_law_k", 5)]) (N := ["_law_d", "_law_low", "_law_high", "_law_long", "_law_signs", "_law_k"]) (sc := defScope s_law_word) (by decide +kernel)) (fun _ _ _ _ _ => (pg_name (i := 5) sc_law_word.nd rfl (.inl rfl))) (fun _ _ _ _ _ => pts_nil) (fun _ _ _ _ _ => (pe_call G_law_pick (hr.mono (by decide)) (by rfl) T.D_law_pick.G T.D_law_pick.F.kp T.D_law_pick.B .nil pass0 (pa_cons (pv 0) (pa_cons (pv 4) pa_nil)))))))))), ?_⟩
    refine ⟨_, rfl, _, rfl, _, rfl, _, rfl, _, _, rfl, rfl, _, _, rfl, rfl, d, l, _, rfl, hD, by omega, fun H1 r K1 D1 r1 r2 => ?_⟩
    have hr0 : 0 ≤ r ∧ r ≤ hi - lo := by
      by_cases z : hi - lo + 1 < 2
      · have := r1 z; omega
      · have := r2 (by omega); omega
    refine ⟨_, _, rfl, rfl, ?_⟩
    refine ⟨_, rfl, ⟨by show 6 ≤ sizeLine; decide, fun p np => ?_⟩⟩
    refine ⟨d, l, _, _, rfl, D1.new np, .inl ⟨p, rfl, (D1.nd np).1, SqL.of upd_same⟩, by show 0 < 6; decide, by show 6 ≤ 1000; decide, fun H2 v K2 D2 hv => ?_⟩
    have hz : ∃ z : Str, v = .str z ∧ (0 < z.cps.toList.length ∧ z.cps.toList.length ≤ 1000 ∧ z.cps.toList.all cW = true) := by
      simp only [List.mem_cons, List.not_mem_nil, or_false] at hv
      rcases hv with rfl | rfl | rfl | rfl | rfl | rfl <;> exact ⟨_, rfl, by decide +kernel⟩
    obtain ⟨z, rfl, hz0, hz1, hz2⟩ := hz
    have K3 : Kp d H H2 := (K1.new np).trans K2
    refine ⟨⟨_, rfl⟩, _, rfl, _, rfl, by omega, by omega, ?_⟩
    refine fun D nD => lc_range (lo := 0) (n := (lo + r).toNat) (PvS (One z.cps.toList) d l H2 D) (PvS.start D2 nD) (fun i H1 hi p => ⟨rfl, ?_⟩) (fun H' p => ?_)
    · exact ⟨_, rfl, _, rfl, pick_one (cs := z.cps.toList) p.dice hz0 hz1 fun H2 zs k2 d2 r => p.step D2 nD (by omega) k2 d2 r⟩
    · obtain ⟨zss, hl, hR, K4, D4, e1⟩ := p
      have ⟨f1, f2⟩ := one_flat hR
      refine ⟨_, D, zss.map mkS, rfl, rfl, .inl (SqL.of (by rw [e1, map_sV])), ?_, ?_⟩
      · rw [sum_len, f1, show (("" : Str)).length = 0 from by rw [empty_mk, mkS_len]; rfl]; omega
      · rw [join_mk]
        exact q H' _ (K3.trans K4) D4 (by rw [f1, hl]; omega) (by rw [f1, hl]; omega) fun c hc => List.all_eq_true.mp hz2 c (f2 c hc)
end
end Vf

set_option Elab.async false
set_option linter.all false
set_option maxRecDepth 100000
set_option maxHeartbeats 4000000
namespace Vf
open PySem PySem.Spec PyProof.Rows L2 TL
/-- texts that the dice make, no argument but the dice -/
def spStr (R : List Nat → Prop) : Sp := fun vs H Q _ => ∃ (d l : Addr), vs = [.ref d] ∧ DI d l H ∧ ∀ H' zs, Kp d H H' → DI d l H' → R zs → Q (sV zs) H'
def spC (z : Str) : Sp := fun vs H Q _ => vs = [] ∧ Q (.str z) H
def RWord (zs : List Nat) : Prop := zs ≠ [] ∧ zs.length ≤ 16 ∧ ∀ c ∈ zs, cW c = true
def RName (zs : List Nat) : Prop := zs ≠ [] ∧ zs.length ≤ 8 ∧ ∀ c ∈ zs, cL c = true
def RTok (zs : List Nat) : Prop := Tk zs ∧ zs.length ≤ 60
theorem ne_of_len {zs : List Nat} {n : Int} (h : (zs.length : Int) = n) (h0 : 0 < n) : zs ≠ [] := fun e => by
  rw [e] at h
  have : (([] : List Nat).length : Int) = 0 := rfl
  omega
theorem mem_cW {c : Nat} (h : c ∈ sW.cps.toList) : cW c = true := decide_eq_true h
theorem mem_cL {c : Nat} (h : c ∈ sL.cps.toList) : cL c = true := decide_eq_true h
theorem sW_n : sW.cps.toList.length = 51 := by decide +kernel
theorem sL_n : sL.cps.toList.length = 26 := by decide +kernel
theorem sOdd_n : sOdd.cps.toList.length = 39 := by decide +kernel
def sNames : Str := ("let hole page note key head par list item table row cell show over up low fence grid line" : Str) ++ (" figure label contents index" : Str)
theorem names_ok : ∀ y ∈ Txt.split sNames (" " : Str), (y.cps.toList.length ≠ 0 ∧ y.cps.toList.length ≤ 8) ∧ y.cps.toList.all cL = true := by decide +kernel
theorem names_n : 0 < (Txt.split sNames (" " : Str)).length ∧ (Txt.split sNames (" " : Str)).length ≤ 1000 := by decide +kernel
section
variable {P : Program} {w : World} {K : PySem.W.Frag} {mg : Str → Option Value} {base : Heap}
theorem ok_word_signs (T : Txt K mg) : FnOk P w K mg base CX0 1 T.a_law_word_signs T.d_law_word_signs [] (spC sW) := by
  refine T.D_law_word_signs.F.ok sc_law_word_signs (fun vs H Q E h => ?_) (fun cdv A outer s H vs Q E hr h => ?_)
  · obtain ⟨rfl, _⟩ := h
    rfl
  · obtain ⟨rfl, q⟩ := h
    exact ⟨_, (pss_one (ps_ret pe_str)), q⟩
theorem ok_some_word (T : Txt K mg) : FnOk P w K mg base CX0 4 T.a_law_some_word T.d_law_some_word ["_law_d"] (spStr RWord) := by
  have G_law_draw : FnOk P w K mg base CX0 1 T.a_law_draw T.d_law_draw ["_law_d", "_law_many"] spDraw := ok_draw T
  have G_law_run : FnOk P w K mg base CX0 3 T.a_law_run T.d_law_run ["_law_d", "_law_signs", "_law_size"] spRun := ok_run T
  have G_law_word : FnOk P w K mg base CX0 3 T.a_law_word T.d_law_word ["_law_d", "_law_low", "_law_high"] spWord := ok_word T
  have G_law_word_signs : FnOk P w K mg base CX0 1 T.a_law_word_signs T.d_law_word_signs [] (spC sW) := ok_word_signs T
  refine T.D_law_some_word.F.ok sc_law_some_word (fun vs H Q E h => ?_) (fun cdv A outer s H vs Q E hr h => ?_)
  · obtain ⟨d, l, rfl, _⟩ := h
    rfl
  · obtain ⟨d, l, rfl, hD, q⟩ := h
    refine ⟨_, (pss_cons (ps_set (i := 1) sc_law_some_word.nd rfl (.inl rfl) (pe_call G_law_draw (hr.mono (by decide)) (by rfl) T.D_law_draw.G T.D_law_draw.F.kp T.D_law_draw.B .nil pass0 (pa_cons (pv 0) (pa_cons pe_int pa_nil))))
      (pss_cons (ps_if (pt_cmpR op_eq (pv 1) pe_int (nomark _)) (pss_one (ps_ret (pe_call G_law_run (hr.mono (by decide)) (by rfl) T.D_law_run.G T.D_law_run.F.kp T.D_law_run.B .nil pass0 (pa_cons (pv 0) (pa_cons (pe_call0 G_law_word_signs (hr.mono (by decide)) (by rfl) T.D_law_word_signs.G T.D_law_word_signs.F.kp T.D_law_word_signs.B .nil pass0) (pa_cons (pe_op op_add pe_int (pe_call G_law_draw (hr.mono (by decide)) (by rfl) T.D_law_draw.G T.D_law_draw.F.kp T.D_law_draw.B .nil pass0 (pa_cons (pv 0) (pa_cons pe_int pa_nil)))) pa_nil)))))) pss_nil)
      (pss_cons (ps_if (pt_cmpR op_eq (pv 1) pe_int (nomark _)) (pss_one (ps_ret (pe_call G_law_run (hr.mono (by decide)) (by rfl) T.D_law_run.G T.D_law_run.F.kp T.D_law_run.B .nil pass0 (pa_cons (pv 0) (pa_cons (pe_call0 G_law_word_signs (hr.mono (by decide)) (by rfl) T.D_law_word_signs.G T.D_law_word_signs.F.kp T.D_law_word_signs.B .nil pass0) (pa_cons (pe_op op_add pe_int (pe_call G_law_draw (hr.mono (by decide)) (by rfl) T.D_law_draw.G T.D_law_draw.F.kp T.D_law_draw.B .nil pass0 (pa_cons (pv 0) (pa_cons pe_int pa_nil)))) pa_nil)))))) pss_nil)
      (pss_one (ps_ret (pe_call G_law_word (hr.mono (by decide)) (by rfl) T.D_law_word.G T.D_law_word.F.kp T.D_law_word.B .nil pass0 (pa_cons (pv 0) (pa_cons pe_int (pa_cons pe_int pa_nil))))))))), ?_⟩
    refine ⟨_, rfl, d, l, _, rfl, hD, by decide, fun H1 r K1 D1 _ r2 => ?_⟩
    have fin : ∀ (a : Int) (m : Int) (H2 : Hp) (r : Int), 1 ≤ a → 0 ≤ r → a + r ≤ 16 → Kp d H H2 → DI d l H2 → spRun [.ref d, .str sW, .int (a + r)] H2 Q E0 := by
      intro a m H2 r ha h0 h16 K2 D2
      refine ⟨d, l, sW.cps.toList, _, rfl, D2, by rw [sW_n]; decide, by rw [sW_n]; decide, by omega, by omega, fun H3 zs K3 D3 el hc => ?_⟩
      exact q H3 zs (K2.trans K3) D3 ⟨ne_of_len el (by omega), by omega, fun c h => mem_cW (hc c h)⟩
    refine ⟨_, rfl, rfl, _, rfl, ite2 (fun _ => ?_) (fun _ => ?_)⟩
    · refine ⟨_, rfl, rfl, _, rfl, d, l, _, rfl, D1, by decide, fun H2 r' K2 D2 _ e2 => ?_⟩
      have e3 := e2 (by decide)
      exact ⟨_, _, rfl, rfl, fin 1 16 H2 r' (by decide) e3.1 (by omega) (K1.trans K2) D2⟩
    · refine ⟨_, rfl, rfl, _, rfl, ite2 (fun _ => ?_) (fun _ => ?_)⟩
      · refine ⟨_, rfl, rfl, _, rfl, d, l, _, rfl, D1, by decide, fun H2 r' K2 D2 _ e2 => ?_⟩
        have e3 := e2 (by decide)
        exact ⟨_, _, rfl, rfl, fin 15 2 H2 r' (by decide) e3.1 (by omega) (K1.trans K2) D2⟩
      · refine ⟨_, rfl, d, l, _, _, rfl, D1, by decide, by decide, by decide, fun H2 zs K2 D2 l1 l2 hc => ?_⟩
        refine q H2 zs (K1.trans K2) D2 ⟨fun e => ?_, by omega, hc⟩
        rw [e] at l1
        exact absurd l1 (by decide)
theorem ok_some_name (T : Txt K mg) : FnOk P w K mg base CX0 4 T.a_law_some_name T.d_law_some_name ["_law_d"] (spStr RName) := by
  have G_law_draw : FnOk P w K mg base CX0 1 T.a_law_draw T.d_law_draw ["_law_d", "_law_many"] spDraw := ok_draw T
  have G_law_pick : FnOk P w K mg base CX0 2 T.a_law_pick T.d_law_pick ["_law_d", "_law_row"] (spPick K) := ok_pick T
  have G_law_run : FnOk P w K mg base CX0 3 T.a_law_run T.d_law_run ["_law_d", "_law_signs", "_law_size"] spRun := ok_run T
  refine T.D_law_some_name.F.ok sc_law_some_name (fun vs H Q E h => ?_) (fun cdv A outer s H vs Q E hr h => ?_)
  · obtain ⟨d, l, rfl, _⟩ := h
    rfl
  · obtain ⟨d, l, rfl, hD, q⟩ := h
    refine ⟨_, (pss_cons (ps_set (i := 1) sc_law_some_name.nd rfl (.inl rfl) (pe_call G_law_draw (hr.mono (by decide)) (by rfl) T.D_law_draw.G T.D_law_draw.F.kp T.D_law_draw.B .nil pass0 (pa_cons (pv 0) (pa_cons pe_int pa_nil))))
      (pss_cons (ps_if (pt_cmpR op_eq (pv 1) pe_int (nomark _)) (pss_one (ps_ret (pe_call G_law_run (hr.mono (by decide)) (by rfl) T.D_law_run.G T.D_law_run.F.kp T.D_law_run.B .nil pass0 (pa_cons (pv 0) (pa_cons pe_str (pa_cons (pe_op op_add pe_int (pe_call G_law_draw (hr.mono (by decide)) (by rfl) T.D_law_draw.G T.D_law_draw.F.kp T.D_law_draw.B .nil pass0 (pa_cons (pv 0) (pa_cons pe_int pa_nil)))) pa_nil)))))) pss_nil)
      (pss_cons (ps_if (pt_cmpR op_eq (pv 1) pe_int (nomark _)) (pss_one (ps_ret (pe_call G_law_run (hr.mono (by decide)) (by rfl) T.D_law_run.G T.D_law_run.F.kp T.D_law_run.B .nil pass0 (pa_cons (pv 0) (pa_cons pe_str (pa_cons (pe_op op_add pe_int (pe_call G_law_draw (hr.mono (by decide)) (by rfl) T.D_law_draw.G T.D_law_draw.F.kp T.D_law_draw.B .nil pass0 (pa_cons (pv 0) (pa_cons pe_int pa_nil)))) pa_nil)))))) pss_nil)
      (pss_cons (ps_if (pt_cmpR op_eq (pv 1) pe_int (nomark _)) (pss_cons (ps_set (i := 2) sc_law_some_name.nd rfl (.inl rfl) pe_str)
      (pss_one (ps_ret (pe_call G_law_pick (hr.mono (by decide)) (by rfl) T.D_law_pick.G T.D_law_pick.F.kp T.D_law_pick.B .nil pass0 (pa_cons (pv 0) (pa_cons (pe_split (pe_op op_add_str (pv 2) pe_str) pe_str) pa_nil)))))) pss_nil)
      (pss_one (ps_ret (pe_call G_law_run (hr.mono (by decide)) (by rfl) T.D_law_run.G T.D_law_run.F.kp T.D_law_run.B .nil pass0 (pa_cons (pv 0) (pa_cons pe_str (pa_cons (pe_op op_add pe_int (pe_call G_law_draw (hr.mono (by decide)) (by rfl) T.D_law_draw.G T.D_law_draw.F.kp T.D_law_draw.B .nil pass0 (pa_cons (pv 0) (pa_cons pe_int pa_nil)))) pa_nil)))))))))), ?_⟩
    refine ⟨_, rfl, d, l, _, rfl, hD, by decide, fun H1 r K1 D1 _ r2 => ?_⟩
    have fin : ∀ (z : Str) (a : Int) (H2 : Hp) (r : Int), z.cps.toList.length ≠ 0 → z.cps.toList.length ≤ 1000 → z.cps.toList.all cL = true → 1 ≤ a → 0 ≤ r → a + r ≤ 8 → Kp d H H2 → DI d l H2 → spRun [.ref d, .str z, .int (a + r)] H2 Q E0 := by
      intro z a H2 r hz0 hz1 hz ha h0 h16 K2 D2
      refine ⟨d, l, z.cps.toList, _, rfl, D2, by omega, hz1, by omega, by omega, fun H3 zs K3 D3 el hc => ?_⟩
      exact q H3 zs (K2.trans K3) D3 ⟨ne_of_len el (by omega), by omega, fun c h => List.all_eq_true.mp hz c (hc c h)⟩
    refine ⟨_, rfl, rfl, _, rfl, ite2 (fun _ => ?_) (fun _ => ?_)⟩
    · refine ⟨_, rfl, _, rfl, d, l, _, rfl, D1, by decide, fun H2 r' K2 D2 _ e2 => ?_⟩
      have e3 := e2 (by decide)
      exact ⟨_, _, rfl, rfl, fin _ 1 H2 r' (by decide +kernel) (by decide +kernel) (by decide +kernel) (by decide) e3.1 (by omega) (K1.trans K2) D2⟩
    refine ⟨_, rfl, rfl, _, rfl, ite2 (fun _ => ?_) (fun _ => ?_)⟩
    · refine ⟨_, rfl, _, rfl, d, l, _, rfl, D1, by decide, fun H2 r' K2 D2 _ e2 => ?_⟩
      have e3 := e2 (by decide)
      exact ⟨_, _, rfl, rfl, fin _ 7 H2 r' (by decide +kernel) (by decide +kernel) (by decide +kernel) (by decide) e3.1 (by omega) (K1.trans K2) D2⟩
    refine ⟨_, rfl, rfl, _, rfl, ite2 (fun _ => ?_) (fun _ => ?_)⟩
    · refine ⟨_, rfl, _, rfl, _, _, rfl, rfl, by decide +kernel, ⟨_, rfl⟩, sNames, (" " : Str), rfl, rfl, by decide +kernel, by decide +kernel, fun p np => ?_⟩
      refine ⟨d, l, _, (Txt.split sNames (" " : Str)).map V.str, rfl, D1.new np, .inl ⟨p, rfl, (D1.nd np).1, SqL.of upd_same⟩, by rw [List.length_map]; exact names_n.1, by rw [List.length_map]; exact names_n.2, fun H2 v K2 D2 hv => ?_⟩
      obtain ⟨y, hy, rfl⟩ := List.mem_map.mp hv
      have ⟨⟨y1, y2⟩, y3⟩ := names_ok y hy
      exact q H2 y.cps.toList ((K1.new np).trans K2) D2 ⟨fun e => y1 (by rw [e]; rfl), y2, fun c h => List.all_eq_true.mp y3 c h⟩
    · refine ⟨_, rfl, _, rfl, d, l, _, rfl, D1, by decide, fun H2 r' K2 D2 _ e2 => ?_⟩
      have e3 := e2 (by decide)
      exact ⟨_, _, rfl, rfl, fin _ 1 H2 r' (by decide +kernel) (by decide +kernel) (by decide +kernel) (by decide) e3.1 (by omega) (K1.trans K2) D2⟩
end
end Vf

set_option Elab.async false
set_option linter.all false
set_option maxRecDepth 100000
set_option maxHeartbeats 4000000
namespace Vf
open PySem PySem.Spec PyProof.Rows L2 TL
/-- two values are the same data, at most n - 1 tuples deep -/
def Eqv : Nat → Hp → V → V → Prop
  | 0, _, _, _ => False
  | n + 1, H, v, u => ((∃ z, v = .str z ∧ u = .str z) ∨ (∃ i, v = .int i ∧ u = .int i) ∨ (v = .non ∧ u = .non)) ∨
      ∃ (a b : Addr) (xs ys : List V), v = .ref a ∧ u = .ref b ∧ H a = some (.tup xs) ∧ H b = some (.tup ys) ∧ xs.length = ys.length ∧ xs.length ≤ 100000 ∧ ∀ (i : Nat) x y, xs[i]? = some x → ys[i]? = some y → Eqv n H x y
def spExact (n : Nat) : Sp := fun vs H Q _ => ∃ (v u : V), vs = [v, u] ∧ Eqv n H v u ∧ Q (.bl true) H
theorem eq_self {H : Hp} {Q : VK} {x : V} (q : Q (.bl true) H) : Q (.bl (decide (x = x))) H := by
  rw [decide_eq_true rfl]; exact q
section
variable {P : Program} {w : World} {K : PySem.W.Frag} {mg : Str → Option Value} {base : Heap}
theorem ok_exact (T : Txt K mg) : ∀ n : Nat, FnOk P w K mg base CX0 (n + 1) T.a_law_exact T.d_law_exact ["_law_told", "_law_due"] (spExact n)
  | 0 => by
    refine T.D_law_exact.F.ok sc_law_exact (fun vs H Q E h => ?_) (fun cdv A outer s H vs Q E hr h => ?_)
    · obtain ⟨v, u, rfl, _⟩ := h
      rfl
    · obtain ⟨v, u, rfl, hE, q⟩ := h
      exact hE.elim
  | n + 1 => by
    have G_law_exact : FnOk P w K mg base CX0 (n + 1) T.a_law_exact T.d_law_exact ["_law_told", "_law_due"] (spExact n) := ok_exact T n
    refine T.D_law_exact.F.ok sc_law_exact (fun vs H Q E h => ?_) (fun cdv A outer s H vs Q E hr h => ?_)
    · obtain ⟨v, u, rfl, _⟩ := h
      rfl
    · obtain ⟨v, u, rfl, hE, q⟩ := h
      refine ⟨_, (pss_cons (ps_if (pt_val (pe_callB call_isi (by rfl) T.n_isinstance (by decide +kernel) (pa_cons (pv 1) (pa_cons (pe_bltn (v := .ty "tuple") (by rfl) T.n_tuple (by decide +kernel) rfl) pa_nil)))) (pss_cons (ps_if (PW.pt (pw_or (pt_not (pt_val (pe_callB call_isi (by rfl) T.n_isinstance (by decide +kernel) (pa_cons (pv 0) (pa_cons (pe_bltn (v := .ty "tuple") (by rfl) T.n_tuple (by decide +kernel) rfl) pa_nil))))) (pw_or1 (pt_cmpR op_ne (pe_callB call_len (by rfl) T.n_len PySem.boot_len (pa_cons (pv 0) pa_nil)) (pe_callB call_len (by rfl) T.n_len PySem.boot_len (pa_cons (pv 1) pa_nil)) (nomark _))))) (pss_one (ps_ret pe_bl)) pss_nil)
      (pss_cons (ps_for PassesOwn.never rfl (pi_range1 (by rfl) T.n_range (pa_cons (pe_callB call_len (by rfl) T.n_len PySem.boot_len (pa_cons (pv 1) pa_nil)) pa_nil)) (pg_name (i := 2) sc_law_exact.nd rfl (.inl rfl)) (pss_one (ps_if (pt_not (pt_val (pe_call G_law_exact hr (by rfl) T.D_law_exact.G T.D_law_exact.F.kp T.D_law_exact.B .nil pass0 (pa_cons (pe_ix ix_seq (pv 0) (pv 2) (fun _ _ => rfl)) (pa_cons (pe_ix ix_seq (pv 1) (pv 2) (fun _ _ => rfl)) pa_nil))))) (pss_one (ps_ret pe_bl)) pss_nil)))
      (pss_one (ps_ret pe_bl)))) pss_nil)
      (pss_cons (ps_if (pt_cmpR op_isN (pv 1) pe_non (nomark _)) (pss_one (ps_ret (pe_cmpR op_isN (pv 0) pe_non (nomark _)))) pss_nil)
      (pss_cons (ps_if (pt_val (pe_callB call_isi (by rfl) T.n_isinstance (by decide +kernel) (pa_cons (pv 1) (pa_cons (pe_bltn (v := .ty "bool") (by rfl) T.n_bool (by decide +kernel) rfl) pa_nil)))) (pss_one (ps_ret (pe_and (pe_callB call_isi (by rfl) T.n_isinstance (by decide +kernel) (pa_cons (pv 0) (pa_cons (pe_bltn (v := .ty "bool") (by rfl) T.n_bool (by decide +kernel) rfl) pa_nil))) (pe_one (pe_cmpR op_eq (pv 0) (pv 1) (nomark _)))))) pss_nil)
      (pss_cons (ps_if (pt_val (pe_callB call_isi (by rfl) T.n_isinstance (by decide +kernel) (pa_cons (pv 1) (pa_cons (pe_bltn (v := .ty "int") (by rfl) T.n_int (by decide +kernel) rfl) pa_nil)))) (pss_one (ps_ret (pe_and (pe_callB call_isi (by rfl) T.n_isinstance (by decide +kernel) (pa_cons (pv 0) (pa_cons (pe_bltn (v := .ty "int") (by rfl) T.n_int (by decide +kernel) rfl) pa_nil))) (pe_and (pe_not (pe_callB call_isi (by rfl) T.n_isinstance (by decide +kernel) (pa_cons (pv 0) (pa_cons (pe_bltn (v := .ty "bool") (by rfl) T.n_bool (by decide +kernel) rfl) pa_nil)))) (pe_one (pe_cmpR op_eq (pv 0) (pv 1) (nomark _))))))) pss_nil)
      (pss_one (ps_ret (pe_and (pe_callB call_isi (by rfl) T.n_isinstance (by decide +kernel) (pa_cons (pv 0) (pa_cons (pe_bltn (v := .ty "str") (by rfl) T.n_str (by decide +kernel) rfl) pa_nil))) (pe_one (pe_cmpR op_eq (pv 0) (pv 1) (nomark _)))))))))), ?_⟩
      rcases hE with (⟨z, rfl, rfl⟩ | ⟨i, rfl, rfl⟩ | ⟨rfl, rfl⟩) | ⟨a, b, xs, ys, rfl, rfl, ha, hb, el, en, hE⟩
      · refine ⟨_, rfl, _, _, .type "str", .type "tuple", false, rfl, .ty _, .base (.str _), kit_ty (by decide +kernel), _, rfl, ?_⟩
        refine ⟨_, rfl, rfl, false, bl_of (decide_eq_false (fun e => by cases e)), ?_⟩
        refine ⟨_, rfl, _, _, .type "str", .type "bool", false, rfl, .ty _, .base (.str _), kit_ty (by decide +kernel), _, rfl, ?_⟩
        refine ⟨_, rfl, _, _, .type "str", .type "int", false, rfl, .ty _, .base (.str _), kit_ty (by decide +kernel), _, rfl, ?_⟩
        exact ⟨_, rfl, _, _, .type "str", .type "str", true, rfl, .ty _, .base (.str _), kit_ty (by decide +kernel), true, rfl, _, rfl, _, rfl, rfl, eq_self q⟩
      · refine ⟨_, rfl, _, _, .type "int", .type "tuple", false, rfl, .ty _, .base (.int _), kit_ty (by decide +kernel), _, rfl, ?_⟩
        refine ⟨_, rfl, rfl, false, bl_of (decide_eq_false (fun e => by cases e)), ?_⟩
        refine ⟨_, rfl, _, _, .type "int", .type "bool", false, rfl, .ty _, .base (.int _), kit_ty (by decide +kernel), _, rfl, ?_⟩
        refine ⟨_, rfl, _, _, .type "int", .type "int", true, rfl, .ty _, .base (.int _), kit_ty (by decide +kernel), _, rfl, ?_⟩
        exact ⟨_, rfl, _, _, .type "int", .type "int", true, rfl, .ty _, .base (.int _), kit_ty (by decide +kernel), true, rfl, _, rfl, _, _, .type "int", .type "bool", false, rfl, .ty _, .base (.int _), kit_ty (by decide +kernel), false, rfl, true, rfl, _, rfl, _, rfl, rfl, eq_self q⟩
      · refine ⟨_, rfl, _, _, .type "NoneType", .type "tuple", false, rfl, .ty _, .base .non, kit_ty (by decide +kernel), _, rfl, ?_⟩
        exact ⟨_, rfl, rfl, true, bl_of (decide_eq_true rfl), _, rfl, rfl, eq_self q⟩
      · refine ⟨_, rfl, _, _, .type "tuple", .type "tuple", true, rfl, .ty _, .base (.tup hb), kit_ty (by decide +kernel), _, rfl, ?_⟩
        refine ⟨_, rfl, _, _, .type "tuple", .type "tuple", true, rfl, .ty _, .base (.tup ha), kit_ty (by decide +kernel), _, rfl, ?_⟩
        refine ⟨_, rfl, _, _, rfl, .inr ⟨_, SqT.of ha, rfl⟩, _, rfl, _, _, rfl, .inr ⟨_, SqT.of hb, rfl⟩, rfl, false, ?_, ?_⟩
        · rw [el, decide_eq_true rfl]; rfl
        refine ⟨_, rfl, _, _, rfl, .inr ⟨_, SqT.of hb, rfl⟩, _, rfl, by omega, by omega, ?_⟩
        refine for_range (lo := 0) (n := ((ys.length : Nat) : Int).toNat) (fun i σ' H' => H' = H ∧ ∃ x2 : Option V, σ' = [some (.ref a), some (.ref b), x2]) ⟨rfl, none, rfl⟩ ?_ ?_
        · rintro i σ' H' hi ⟨rfl, x2, rfl⟩
          have hi2 : i < ys.length := by omega
          have hi1 : i < xs.length := by omega
          have gx : xs[i]? = some xs[i] := List.getElem?_eq_getElem hi1
          have gy : ys[i]? = some ys[i] := List.getElem?_eq_getElem hi2
          have e0 : ((0 : Int) + (i : Int)) = (i : Int) := Int.zero_add _
          refine ⟨_, rfl, _, rfl, .inr (.inl ⟨a, xs, _, _, rfl, rfl, SqT.of ha, at_of e0 gx, ?_⟩)⟩
          refine ⟨_, rfl, _, rfl, .inr (.inl ⟨b, ys, _, _, rfl, rfl, SqT.of hb, at_of e0 gy, ?_⟩)⟩
          exact ⟨_, _, rfl, hE i _ _ gx gy, true, rfl, rfl, _, rfl⟩
        · rintro σ' H' ⟨rfl, x2, rfl⟩
          exact q
end
end Vf

set_option Elab.async false
set_option linter.all false
set_option maxRecDepth 100000
set_option maxHeartbeats 4000000
namespace Vf
open PySem PySem.Spec PyProof.Rows L2 TL
/-! ### trees -/
mutual
inductive Tr where
  | nil
  | word (w : List Nat) (r : Tr)
  | call (n : List Nat) (a : Ar) (r : Tr)
inductive Ar where
  | nil
  | cons (t : Tr) (r : Ar)
end
mutual
def toksT : Tr → List (List Nat)
  | .nil => []
  | .word w r => w :: toksT r
  | .call n a r => (64 :: n) :: (toksA a ++ toksT r)
def toksA : Ar → List (List Nat)
  | .nil => []
  | .cons t r => [123] :: (toksT t ++ ([125] :: toksA r))
end
mutual
def depT : Tr → Nat
  | .nil => 0
  | .word _ r => depT r
  | .call _ a r => max (depA a) (depT r)
def depA : Ar → Nat
  | .nil => 0
  | .cons t r => max (depT t + 1) (depA r)
end
mutual
def GoodT : Tr → Prop
  | .nil => True
  | .word w r => RWord w ∧ GoodT r
  | .call n a r => RName n ∧ GoodA a ∧ GoodT r
def GoodA : Ar → Prop
  | .nil => True
  | .cons t r => GoodT t ∧ GoodA r
end
def appT : Tr → Tr → Tr
  | .nil, u => u
  | .word w r, u => .word w (appT r u)
  | .call n a r, u => .call n a (appT r u)
def appA : Ar → Ar → Ar
  | .nil, u => u
  | .cons t r, u => .cons t (appA r u)
theorem toksT_app : ∀ t u : Tr, toksT (appT t u) = toksT t ++ toksT u
  | .nil, u => by simp only [appT, toksT, List.nil_append]
  | .word w r, u => by simp only [appT, toksT, toksT_app r u, List.cons_append]
  | .call n a r, u => by simp only [appT, toksT, toksT_app r u, List.cons_append, List.append_assoc]
theorem toksA_app : ∀ t u : Ar, toksA (appA t u) = toksA t ++ toksA u
  | .nil, u => by simp only [appA, toksA, List.nil_append]
  | .cons t r, u => by simp only [appA, toksA, toksA_app r u, List.cons_append, List.append_assoc]
theorem depT_app : ∀ t u : Tr, depT (appT t u) = max (depT t) (depT u)
  | .nil, u => by simp only [appT, depT]; omega
  | .word w r, u => by simp only [appT, depT, depT_app r u]
  | .call n a r, u => by simp only [appT, depT, depT_app r u]; omega
theorem depA_app : ∀ t u : Ar, depA (appA t u) = max (depA t) (depA u)
  | .nil, u => by simp only [appA, depA]; omega
  | .cons t r, u => by simp only [appA, depA, depA_app r u]; omega
theorem GoodT_app : ∀ {t u : Tr}, GoodT t → GoodT u → GoodT (appT t u)
  | .nil, _, _, h => by simp only [appT]; exact h
  | .word w r, _, h, k => by
    simp only [appT, GoodT] at h ⊢
    exact ⟨h.1, GoodT_app h.2 k⟩
  | .call n a r, _, h, k => by
    simp only [appT, GoodT] at h ⊢
    exact ⟨h.1, h.2.1, GoodT_app h.2.2 k⟩
theorem GoodA_app : ∀ {t u : Ar}, GoodA t → GoodA u → GoodA (appA t u)
  | .nil, _, _, h => by simp only [appA]; exact h
  | .cons t r, _, h, k => by
    simp only [appA, GoodA] at h ⊢
    exact ⟨h.1, GoodA_app h.2 k⟩
/-- every token of a good tree is short and not empty -/
theorem RWord.len {z : List Nat} (h : RWord z) : z.length ≤ 16 := h.2.1
theorem RName.len {z : List Nat} (h : RName z) : z.length ≤ 8 := h.2.1
mutual
theorem toksT_len : ∀ {t : Tr}, GoodT t → ∀ z ∈ toksT t, z.length ≤ 17 ∧ z ≠ []
  | .nil, _ => fun z h => by simp only [toksT] at h; cases h
  | .word w r, g => fun z h => by
    simp only [toksT, GoodT] at h g
    rcases List.mem_cons.mp h with rfl | h
    · exact ⟨Nat.le_succ_of_le g.1.len, g.1.1⟩
    · exact toksT_len g.2 z h
  | .call n a r, g => fun z h => by
    simp only [toksT, GoodT] at h g
    rcases List.mem_cons.mp h with rfl | h
    · refine ⟨?_, by simp⟩
      have := g.1.len
      show n.length + 1 ≤ 17
      omega
    · rcases List.mem_append.mp h with h | h
      · exact toksA_len g.2.1 z h
      · exact toksT_len g.2.2 z h
theorem toksA_len : ∀ {t : Ar}, GoodA t → ∀ z ∈ toksA t, z.length ≤ 17 ∧ z ≠ []
  | .nil, _ => fun z h => by simp only [toksA] at h; cases h
  | .cons t r, g => fun z h => by
    simp only [toksA, GoodA] at h g
    rcases List.mem_cons.mp h with rfl | h
    · exact ⟨by show 1 ≤ 17; decide, by simp⟩
    · rcases List.mem_append.mp h with h | h
      · exact toksT_len g.1 z h
      · rcases List.mem_cons.mp h with rfl | h
        · exact ⟨by show 1 ≤ 17; decide, by simp⟩
        · exact toksA_len g.2 z h
end
/-! ### trees in the heap -/
def kWord : V := .str ("word" : Str)
def kCall : V := .str ("call" : Str)
mutual
def RepT (H : Hp) : Tr → List V → Prop
  | .nil, vs => vs = []
  | .word w r, vs => ∃ p vs', vs = .ref p :: vs' ∧ H p = some (.tup [kWord, sV w]) ∧ RepT H r vs'
  | .call n a r, vs => ∃ p q us vs', vs = .ref p :: vs' ∧ H p = some (.tup [kCall, sV n, .ref q]) ∧ H q = some (.tup us) ∧ RepA H a us ∧ RepT H r vs'
def RepA (H : Hp) : Ar → List V → Prop
  | .nil, vs => vs = []
  | .cons t r, vs => ∃ p us vs', vs = .ref p :: vs' ∧ H p = some (.tup us) ∧ RepT H t us ∧ RepA H r vs'
end
/-- tuples stay -/
def TKeep (H H' : Hp) : Prop := ∀ p xs, H p = some (.tup xs) → H' p = some (.tup xs)
theorem TKeep.refl (H : Hp) : TKeep H H := fun _ _ h => h
theorem TKeep.trans {H H1 H2 : Hp} (a : TKeep H H1) (b : TKeep H1 H2) : TKeep H H2 := fun p xs h => b p xs (a p xs h)
theorem TKeep.same {H H' : Hp} (s : Same H H') : TKeep H H' := fun p xs h => s p _ h
theorem TKeep.kp {d l : Addr} {H H' : Hp} (s : Kp d H H') (hD : DI d l H) : TKeep H H' := fun p xs h => s p _ (fun e => by
  obtain ⟨_, _, _, _, _, _, _, e2⟩ := hD
  rw [e, e2] at h; cases h) h
theorem TKeep.kpl {p : Addr} {H H' : Hp} {xs : List V} (s : Kp p H H') (hp : H p = some (.lst xs)) : TKeep H H' := fun q ys h => s q _ (fun e => by rw [e, hp] at h; cases h) h
theorem TKeep.new {H : Hp} {p : Addr} {o : HO} (hp : H p = none) : TKeep H (upd H p o) := fun q xs h => by rw [upd_ne (ne_of_none h hp)]; exact h
theorem TKeep.mut {H : Hp} {p : Addr} {o : HO} {ys : List V} (hp : H p = some (.lst ys)) : TKeep H (upd H p o) := fun q xs h => by
  rw [upd_ne (fun e => by rw [e, hp] at h; cases h)]; exact h
mutual
theorem RepT.keep {H H' : Hp} (k : TKeep H H') : ∀ {t : Tr} {vs : List V}, RepT H t vs → RepT H' t vs
  | .nil, vs, h => by simp only [RepT] at h ⊢; exact h
  | .word w r, vs, h => by
    simp only [RepT] at h ⊢
    obtain ⟨p, vs', e, a, b⟩ := h
    exact ⟨p, vs', e, k _ _ a, RepT.keep k b⟩
  | .call n a r, vs, h => by
    simp only [RepT] at h ⊢
    obtain ⟨p, q, us, vs', e, a, b, c, d⟩ := h
    exact ⟨p, q, us, vs', e, k _ _ a, k _ _ b, RepA.keep k c, RepT.keep k d⟩
theorem RepA.keep {H H' : Hp} (k : TKeep H H') : ∀ {t : Ar} {vs : List V}, RepA H t vs → RepA H' t vs
  | .nil, vs, h => by simp only [RepA] at h ⊢; exact h
  | .cons t r, vs, h => by
    simp only [RepA] at h ⊢
    obtain ⟨p, us, vs', e, a, b, c⟩ := h
    exact ⟨p, us, vs', e, k _ _ a, RepT.keep k b, RepA.keep k c⟩
end
theorem RepT.app {H : Hp} : ∀ {t u : Tr} {vs us : List V}, RepT H t vs → RepT H u us → RepT H (appT t u) (vs ++ us)
  | .nil, u, vs, us, h, k => by
    simp only [RepT] at h
    subst h
    exact k
  | .word w r, u, vs, us, h, k => by
    simp only [RepT, appT] at h ⊢
    obtain ⟨p, vs', rfl, a, b⟩ := h
    exact ⟨p, vs' ++ us, rfl, a, RepT.app b k⟩
  | .call n a r, u, vs, us, h, k => by
    simp only [RepT, appT] at h ⊢
    obtain ⟨p, q, ws, vs', rfl, a, b, c, d⟩ := h
    exact ⟨p, q, ws, vs' ++ us, rfl, a, b, c, RepT.app d k⟩
theorem RepA.app {H : Hp} : ∀ {t u : Ar} {vs us : List V}, RepA H t vs → RepA H u us → RepA H (appA t u) (vs ++ us)
  | .nil, u, vs, us, h, k => by
    simp only [RepA] at h
    subst h
    exact k
  | .cons t r, u, vs, us, h, k => by
    simp only [RepA, appA] at h ⊢
    obtain ⟨p, ws, vs', rfl, a, b, c⟩ := h
    exact ⟨p, ws, vs' ++ us, rfl, a, b, RepA.app c k⟩
theorem RepT.len {H : Hp} : ∀ {t : Tr} {vs : List V}, RepT H t vs → vs.length ≤ (toksT t).length
  | .nil, vs, h => by
    simp only [RepT] at h
    subst h
    exact Nat.zero_le _
  | .word w r, vs, h => by
    simp only [RepT, toksT] at h ⊢
    obtain ⟨p, vs', rfl, a, b⟩ := h
    have := RepT.len b
    rw [List.length_cons, List.length_cons]
    omega
  | .call n a r, vs, h => by
    simp only [RepT, toksT] at h ⊢
    obtain ⟨p, q, ws, vs', rfl, a, b, c, d⟩ := h
    have := RepT.len d
    rw [List.length_cons, List.length_cons, List.length_append]
    omega
theorem RepA.len {H : Hp} : ∀ {t : Ar} {vs : List V}, RepA H t vs → vs.length ≤ (toksA t).length
  | .nil, vs, h => by
    simp only [RepA] at h
    subst h
    exact Nat.zero_le _
  | .cons t r, vs, h => by
    simp only [RepA, toksA] at h ⊢
    obtain ⟨p, ws, vs', rfl, a, b, c⟩ := h
    have := RepA.len c
    rw [List.length_cons, List.length_cons, List.length_append, List.length_cons]
    omega
/-- a tree's value -/
def TV (H : Hp) (v : V) (t : Tr) : Prop := ∃ p us, v = .ref p ∧ H p = some (.tup us) ∧ RepT H t us
theorem TV.keep {H H' : Hp} {v : V} {t : Tr} (h : TV H v t) (k : TKeep H H') : TV H' v t := by
  obtain ⟨p, us, e, a, b⟩ := h
  exact ⟨p, us, e, k _ _ a, b.keep k⟩
/-- a call's value -/
def CV (H : Hp) (v : V) (n : List Nat) (a : Ar) : Prop := ∃ p q us, v = .ref p ∧ H p = some (.tup [kCall, sV n, .ref q]) ∧ H q = some (.tup us) ∧ RepA H a us
theorem CV.keep {H H' : Hp} {v : V} {n : List Nat} {a : Ar} (h : CV H v n a) (k : TKeep H H') : CV H' v n a := by
  obtain ⟨p, q, us, e, x, b, c⟩ := h
  exact ⟨p, q, us, e, k _ _ x, k _ _ b, c.keep k⟩
theorem call_ne_word : V.bl (decide (kCall = V.str ("word" : Str))) = V.bl false := by decide +kernel
theorem word_eq_word : V.bl (decide (kWord = V.str ("word" : Str))) = V.bl true := by decide +kernel
theorem brO_mk : (("{" : Str)) = mkS [123] := by decide +kernel
theorem brC_mk : (("}" : Str)) = mkS [125] := by decide +kernel
theorem brO_sV : V.str ("{" : Str) = sV [123] := by rw [brO_mk]; rfl
theorem brC_sV : V.str ("}" : Str) = sV [125] := by rw [brC_mk]; rfl
/-- tokens joined by blanks -/
def spaced (ts : List (List Nat)) : List Nat := joinL [32] ts
theorem join_sp (ts : List (List Nat)) : Txt.join (" " : Str) (ts.map mkS) = mkS (spaced ts) := by
  have h : tl (Txt.join (" " : Str) (ts.map mkS)) = spaced ts := by
    rw [join_eq, tl_join, show (ts.map mkS).map tl = ts from (by rw [List.map_map]; exact List.map_id'' (fun _ => rfl) ts), blank_mk]
    rfl
  rw [← h]; rfl
theorem sum_le {B : Nat} : ∀ {zss : List (List Nat)}, (∀ z ∈ zss, z.length ≤ B) → ((zss.map mkS).map (·.length)).sum ≤ zss.length * B
  | [], _ => Nat.zero_le _
  | z :: r, h => by
    have ih := sum_le (zss := r) fun y hy => h y (List.mem_cons_of_mem _ hy)
    have hz := h z List.mem_cons_self
    rw [List.map_cons, List.map_cons, List.sum_cons, mkS_len, List.length_cons, Nat.succ_mul]
    omega
theorem blank_len : ((" " : Str)).length = 1 := by rw [blank_mk, mkS_len]; rfl
theorem at_app {n : List Nat} : ("@" : Str) ++ mkS n = mkS (64 :: n) := by rw [at_mk, mkS_app]; rfl
theorem at_len : (("@" : Str)).length = 1 := by rw [at_mk, mkS_len]; rfl
theorem drop_x {us : List V} {i : Nat} {x : V} (hx : us[i]? = some x) : us.drop i = x :: us.drop (i + 1) := by
  have ⟨h1, h2⟩ := List.getElem?_eq_some_iff.mp hx
  rw [List.drop_eq_getElem_cons h1, h2]
theorem lt_size {n : Nat} (h : n < 100000) : n < sizeLine := Nat.lt_of_lt_of_le h (by decide)
theorem snoc_sV (ts : List (List Nat)) (z : List Nat) : (ts ++ [z]).map sV = ts.map sV ++ [sV z] := by rw [List.map_append]; rfl
end Vf

set_option Elab.async false
set_option linter.all false
set_option maxRecDepth 100000
set_option maxHeartbeats 4000000
namespace Vf
open PySem PySem.Spec PyProof.Rows L2 TL
section
variable {P : Program} {w : World} {K : PySem.W.Frag} {mg : Str → Option Value} {base : Heap}
/-! ### the program: tokens of a tree, put behind others -/
def spPut (n : Nat) : Sp := fun vs H Q _ => ∃ (v : V) (t : Tr) (p : Addr) (ts : List (List Nat)), vs = [v, .ref p] ∧ TV H v t ∧ depT t < n ∧ GoodT t ∧ H p = some (.lst (ts.map sV)) ∧ ts.length + (toksT t).length ≤ 100000 ∧
  ∀ H', Kp p H H' → H' p = some (.lst ((ts ++ toksT t).map sV)) → Q .non H'
def spPutCall (n : Nat) : Sp := fun vs H Q _ => ∃ (v : V) (nm : List Nat) (a : Ar) (p : Addr) (ts : List (List Nat)), vs = [v, .ref p] ∧ CV H v nm a ∧ depA a < n ∧ RName nm ∧ GoodA a ∧ H p = some (.lst (ts.map sV)) ∧ ts.length + 1 + (toksA a).length ≤ 100000 ∧
  ∀ H', Kp p H H' → H' p = some (.lst ((ts ++ (64 :: nm) :: toksA a).map sV)) → Q .non H'
theorem small_lt {n : Nat} (h : n < 100000) : n < sizeLine := Nat.lt_of_lt_of_le h (by decide)
theorem map_snoc (ts : List (List Nat)) (z : List Nat) : (ts ++ [z]).map sV = ts.map sV ++ [sV z] := by rw [List.map_append]; rfl
mutual
theorem ok_put (T : Txt K mg) : ∀ n : Nat, FnOk P w K mg base CX0 (2 * n + 1) T.a_put_tokens T.d_put_tokens ["tree", "tokens"] (spPut n)
  | 0 => by
    refine T.D_put_tokens.F.ok sc_put_tokens (fun vs H Q E h => ?_) (fun cdv A outer s H vs Q E hr h => ?_)
    · obtain ⟨v, t, p, ts, rfl, _⟩ := h
      rfl
    · obtain ⟨v, t, p, ts, rfl, _, hd, _⟩ := h
      exact absurd hd (Nat.not_lt_zero _)
  | n + 1 => by
    have G_put_call : FnOk P w K mg base CX0 (2 * n + 2) T.a_put_call T.d_put_call ["node", "tokens"] (spPutCall (n + 1)) := ok_put_call T n
    refine T.D_put_tokens.F.ok (k := 2 * n + 2) sc_put_tokens (fun vs H Q E h => ?_) (fun cdv A outer s H vs Q E hr h => ?_)
    · obtain ⟨v, t, p, ts, rfl, _⟩ := h
      rfl
    · obtain ⟨v, t, p, ts, rfl, ⟨tp, us, rfl, hp, hR⟩, hd, hg, hl, hn, q⟩ := h
      refine ⟨_, (pss_one (ps_for PassesOwn.never rfl (pi_tup (pv 0)) (pg_name (i := 2) sc_put_tokens.nd rfl (.inl rfl)) (pss_one (ps_if (pt_cmpR op_eq (pe_ix ix_tup (pv 2) pe_int (fun _ _ => rfl)) pe_str (nomark _)) (pss_one (ps_expr (pe_bm PySem.F.plainAttrs_list PySem.F.slot_list_append PySem.F.type_list_append mt_append (pv 1) (pa_cons (pe_ix ix_tup (pv 2) pe_int (fun _ _ => rfl)) pa_nil)))) (pss_one (ps_expr (pe_call G_put_call hr (by rfl) T.D_put_call.G T.D_put_call.F.kp T.D_put_call.B .nil pass0 (pa_cons (pv 2) (pa_cons (pv 1) pa_nil))))))))), ?_⟩
      refine ⟨_, rfl, tp, rfl, ⟨_, SqT.of hp⟩, ?_⟩
      have npt : tp ≠ p := fun e => by rw [e, hl] at hp; cases hp
      refine for_tup (K := K) (a := tp) (xs := us) (fun i σ' H' => ∃ (r : Tr) (ds : List (List Nat)) (x2 : Option V), σ' = [some (.ref tp), some (.ref p), x2] ∧ RepT H r (us.drop i) ∧ Kp p H H' ∧ H' p = some (.lst ((ts ++ ds).map sV)) ∧ ds ++ toksT r = toksT t ∧ depT r < n + 1 ∧ GoodT r)
        ⟨t, [], none, rfl, hR, Kp.refl p H, by rw [List.append_nil]; exact hl, rfl, hd, hg⟩ ?_ ?_ ?_
      · rintro i σ' H' _ ⟨_, _, _, _, _, k, _⟩
        exact SqT.of (k _ _ npt hp)
      · rintro i x σ' H' hx ⟨r, ds, x2, rfl, hr1, k1, e1, e2, d1, g1⟩
        rw [show us.drop i = x :: us.drop (i + 1) from by
          have ⟨h1, h2⟩ := List.getElem?_eq_some_iff.mp hx
          rw [List.drop_eq_getElem_cons h1, h2]] at hr1
        have len1 : (ts ++ ds).length + (toksT r).length ≤ 100000 := by
          have e3 := congrArg List.length e2
          rw [List.length_append] at e3
          rw [List.length_append]; omega
        cases r with
        | nil => simp only [RepT] at hr1; cases hr1
        | word z r =>
          simp only [RepT, toksT, depT, GoodT] at hr1 e2 d1 g1 len1
          obtain ⟨y, vs', e3, hy, hr2⟩ := hr1
          injection e3 with e4 e5
          subst e4 e5
          have hy' : H' y = some (.tup [kWord, sV z]) := k1 _ _ (fun e => by rw [e, hl] at hy; cases hy) hy
          refine ⟨_, rfl, _, _, _, _, rfl, rfl, SqT.of hy', rfl, rfl, true, word_eq_word, ?_⟩
          refine ⟨.ref p, rfl, .inl ⟨rfl, _, .inl (.inl e1)⟩, _, rfl, _, _, _, _, rfl, rfl, SqT.of hy', rfl, p, _, _, rfl, rfl, e1, ?_, ?_⟩
          · rw [List.length_map]; rw [List.length_cons] at len1; exact small_lt (by omega)
          · refine ⟨r, ds ++ [z], _, rfl, hr2, k1.upd, ?_, ?_, d1, g1.2⟩
            · rw [upd_same, ← map_snoc, List.append_assoc]
            · rw [List.append_assoc]; exact e2
        | call nm a r =>
          simp only [RepT, toksT, depT, GoodT] at hr1 e2 d1 g1 len1
          obtain ⟨y, y2, ws, vs', e3, hy, hy2, ha, hr2⟩ := hr1
          injection e3 with e4 e5
          subst e4 e5
          have tk : TKeep H H' := TKeep.kpl k1 hl
          have cv : CV H' (.ref y) nm a := ⟨y, y2, ws, rfl, tk _ _ hy, tk _ _ hy2, ha.keep tk⟩
          refine ⟨_, rfl, _, _, _, _, rfl, rfl, SqT.of (tk _ _ hy), rfl, rfl, false, call_ne_word, ?_⟩
          refine ⟨_, rfl, _, rfl, .ref y, nm, a, p, _, rfl, cv, by omega, g1.1, g1.2.1, e1, ?_, fun H2 k2 e6 => ?_⟩
          · simp only [List.length_append, List.length_cons] at len1 ⊢; omega
          · refine ⟨r, ds ++ (64 :: nm) :: toksA a, _, rfl, hr2, k1.trans k2, ?_, ?_, by omega, g1.2.2⟩
            · rw [e6, List.append_assoc]
            · rw [List.append_assoc]; exact e2
      · rintro σ' H' ⟨r, ds, x2, rfl, hr1, k1, e1, e2, _⟩
        rw [List.drop_length] at hr1
        cases r with
        | nil =>
          simp only [toksT, List.append_nil] at e2
          rw [e2] at e1
          exact q H' k1 e1
        | word z r =>
          simp only [RepT] at hr1
          obtain ⟨_, _, e, _⟩ := hr1
          cases e
        | call nm a r =>
          simp only [RepT] at hr1
          obtain ⟨_, _, _, _, e, _⟩ := hr1
          cases e
theorem ok_put_call (T : Txt K mg) : ∀ n : Nat, FnOk P w K mg base CX0 (2 * n + 2) T.a_put_call T.d_put_call ["node", "tokens"] (spPutCall (n + 1)) := fun n => by
  have G_put_tokens : FnOk P w K mg base CX0 (2 * n + 1) T.a_put_tokens T.d_put_tokens ["tree", "tokens"] (spPut n) := ok_put T n
  refine T.D_put_call.F.ok (k := 2 * n + 1) sc_put_call (fun vs H Q E h => ?_) (fun cdv A outer s H vs Q E hr h => ?_)
  · obtain ⟨v, nm, a, p, ts, rfl, _⟩ := h
    rfl
  · obtain ⟨v, nm, a, p, ts, rfl, ⟨cp, cq, us, rfl, hc, hq, hA⟩, hd, hnm, hg, hl, hn, q⟩ := h
    refine ⟨_, (pss_cons (ps_expr (pe_bm PySem.F.plainAttrs_list PySem.F.slot_list_append PySem.F.type_list_append mt_append (pv 1) (pa_cons (pe_op op_add_str pe_str (pe_ix ix_tup (pv 0) pe_int (fun _ _ => rfl))) pa_nil)))
      (pss_one (ps_for PassesOwn.never rfl (pi_tup (pe_ix ix_tup (pv 0) pe_int (fun _ _ => rfl))) (pg_name (i := 2) sc_put_call.nd rfl (.inl rfl)) (pss_cons (ps_expr (pe_bm PySem.F.plainAttrs_list PySem.F.slot_list_append PySem.F.type_list_append mt_append (pv 1) (pa_cons pe_str pa_nil)))
      (pss_cons (ps_expr (pe_call G_put_tokens hr (by rfl) T.D_put_tokens.G T.D_put_tokens.F.kp T.D_put_tokens.B .nil pass0 (pa_cons (pv 2) (pa_cons (pv 1) pa_nil))))
      (pss_one (ps_expr (pe_bm PySem.F.plainAttrs_list PySem.F.slot_list_append PySem.F.type_list_append mt_append (pv 1) (pa_cons pe_str pa_nil))))))))), ?_⟩
    have nl := hnm.len
    refine ⟨.ref p, rfl, .inl ⟨rfl, _, .inl (.inl hl)⟩, ⟨_, rfl, _, _, _, _, rfl, rfl, SqT.of hc, rfl, _, _, rfl, rfl, ?_, ?_⟩⟩
    · rw [at_len, mkS_len]; exact Nat.le_trans (show 1 + nm.length ≤ 100 by omega) (by decide)
    rw [at_app]
    refine ⟨p, _, _, rfl, rfl, hl, by rw [List.length_map]; exact small_lt (by omega), ?_⟩
    have K1 : Kp p H (upd H p (.lst (ts.map sV ++ [sV (64 :: nm)]))) := (Kp.refl p H).upd
    have e1 : upd H p (.lst (ts.map sV ++ [sV (64 :: nm)])) p = some (.lst ((ts ++ [64 :: nm]).map sV)) := by rw [upd_same, map_snoc]
    have tk1 : TKeep H (upd H p (.lst (ts.map sV ++ [sV (64 :: nm)]))) := TKeep.mut hl
    have npq : cq ≠ p := fun e => by rw [e, hl] at hq; cases hq
    refine ⟨_, rfl, _, _, _, _, rfl, rfl, SqT.of (tk1 _ _ hc), rfl, cq, rfl, ⟨_, SqT.of (tk1 _ _ hq)⟩, ?_⟩
    refine for_tup (K := K) (a := cq) (xs := us) (fun i σ' H' => ∃ (r : Ar) (ds : List (List Nat)) (x2 : Option V), σ' = [some (.ref cp), some (.ref p), x2] ∧ RepA H r (us.drop i) ∧ Kp p H H' ∧ H' p = some (.lst ((ts ++ (64 :: nm) :: ds).map sV)) ∧ ds ++ toksA r = toksA a ∧ depA r < n + 1 ∧ GoodA r)
      ⟨a, [], none, rfl, hA, K1, e1, rfl, hd, hg⟩ ?_ ?_ ?_
    · rintro i σ' H' _ ⟨_, _, _, _, _, k, _⟩
      exact SqT.of (k _ _ npq hq)
    · rintro i x σ' H' hx ⟨r, ds, x2, rfl, hr1, k1, e1, e2, d1, g1⟩
      rw [show us.drop i = x :: us.drop (i + 1) from by
        have ⟨h1, h2⟩ := List.getElem?_eq_some_iff.mp hx
        rw [List.drop_eq_getElem_cons h1, h2]] at hr1
      have len1 : (ts ++ (64 :: nm) :: ds).length + (toksA r).length ≤ 100000 := by
        have e3 := congrArg List.length e2
        rw [List.length_append] at e3
        rw [List.length_append, List.length_cons]; omega
      cases r with
      | nil => simp only [RepA] at hr1; cases hr1
      | cons t r =>
        simp only [RepA, toksA, depA, GoodA] at hr1 e2 d1 g1 len1
        obtain ⟨y, ws, vs', e3, hy, ht, hr2⟩ := hr1
        injection e3 with e4 e5
        subst e4 e5
        simp only [List.length_append, List.length_cons] at len1
        have tk : TKeep H H' := TKeep.kpl k1 hl
        refine ⟨.ref p, rfl, .inl ⟨rfl, _, .inl (.inl e1)⟩, p, _, _, rfl, rfl, e1, by rw [List.length_map]; exact small_lt (by simp only [List.length_append, List.length_cons]; omega), ?_⟩
        rw [brO_sV, ← map_snoc]
        have tk2 : TKeep H (upd H' p (.lst ((ts ++ (64 :: nm) :: ds ++ [[123]]).map sV))) := tk.trans (TKeep.mut e1)
        refine ⟨_, rfl, _, rfl, .ref y, t, p, ts ++ (64 :: nm) :: ds ++ [[123]], rfl, ⟨y, ws, rfl, tk2 _ _ hy, ht.keep tk2⟩, by omega, g1.1, upd_same, ?_, fun H3 k3 e6 => ?_⟩
        · simp only [List.length_append, List.length_cons, List.length_nil]; omega
        · refine ⟨.ref p, rfl, .inl ⟨rfl, _, .inl (.inl e6)⟩, p, _, _, rfl, rfl, e6, ?_, ?_⟩
          · rw [List.length_map]; refine small_lt ?_; simp only [List.length_append, List.length_cons, List.length_nil]; omega
          · rw [brC_sV, ← map_snoc]
            refine ⟨r, ds ++ [123] :: (toksT t ++ [[125]]), _, rfl, hr2, (k1.upd.trans k3).upd, ?_, ?_, by omega, g1.2⟩
            · rw [upd_same]
              congr 3
              simp only [List.append_assoc, List.cons_append, List.nil_append]
            · rw [← e2]
              simp only [List.append_assoc, List.cons_append, List.nil_append]
    · rintro σ' H' ⟨r, ds, x2, rfl, hr1, k1, e1, e2, _⟩
      rw [List.drop_length] at hr1
      cases r with
      | nil =>
        simp only [toksA, List.append_nil] at e2
        rw [e2] at e1
        exact q H' k1 e1
      | cons t r =>
        simp only [RepA] at hr1
        obtain ⟨_, _, _, e, _⟩ := hr1
        cases e
end
def spWrite : Sp := fun vs H Q _ => ∃ (v : V) (t : Tr), vs = [v] ∧ TV H v t ∧ depT t < 22 ∧ GoodT t ∧ (toksT t).length ≤ 50000 ∧ ∀ H', Same H H' → Q (sV (spaced (toksT t))) H'
theorem ok_write (T : Txt K mg) : FnOk P w K mg base CX0 46 T.a_write_tree T.d_write_tree ["tree"] spWrite := by
  have G_put_tokens : FnOk P w K mg base CX0 45 T.a_put_tokens T.d_put_tokens ["tree", "tokens"] (spPut 22) := ok_put T 22
  refine T.D_write_tree.F.ok sc_write_tree (fun vs H Q E h => ?_) (fun cdv A outer s H vs Q E hr h => ?_)
  · obtain ⟨v, t, rfl, _⟩ := h
    rfl
  · obtain ⟨v, t, rfl, hv, hd, hg, hl, q⟩ := h
    refine ⟨_, (pss_cons (ps_set (i := 1) sc_write_tree.nd rfl (.inl rfl) (pe_lst pa_nil))
      (pss_cons (ps_expr (pe_call G_put_tokens hr (by rfl) T.D_put_tokens.G T.D_put_tokens.F.kp T.D_put_tokens.B .nil pass0 (pa_cons (pv 0) (pa_cons (pv 1) pa_nil))))
      (pss_one (ps_ret (pe_join pe_str (pv 1)))))), ?_⟩
    refine ⟨by show 0 ≤ sizeLine; decide, fun p np => ?_⟩
    refine ⟨_, rfl, _, rfl, v, t, p, [], rfl, hv.keep (TKeep.new np), hd, hg, upd_same, by rw [List.length_nil]; omega, fun H2 k2 e2 => ?_⟩
    have s2 : Same H H2 := fun b o e => k2 b o (ne_of_none e np) (by rw [upd_ne (ne_of_none e np)]; exact e)
    rw [List.nil_append] at e2
    refine ⟨⟨_, rfl⟩, _, rfl, _, p, (toksT t).map mkS, rfl, rfl, .inl (SqL.of (by rw [e2, map_sV])), ?_, ?_⟩
    · have := sum_le (zss := toksT t) (B := 17) fun z hz => (toksT_len hg z hz).1
      rw [List.length_map, blank_len]
      omega
    · rw [join_sp]
      exact q H2 s2
end
end Vf

set_option Elab.async false
set_option linter.all false
set_option maxRecDepth 100000
set_option maxHeartbeats 4000000
namespace Vf
open PySem PySem.Spec PyProof.Rows L2 TL
section
variable {P : Program} {w : World} {K : PySem.W.Frag} {mg : Str → Option Value} {base : Heap}
/-! ### the tokens in a tree -/
def spTokensIn (n : Nat) : Sp := fun vs H Q _ => ∃ (v : V) (t : Tr), vs = [v] ∧ TV H v t ∧ depT t < n ∧ GoodT t ∧ (toksT t).length ≤ 50000 ∧
  ∀ H' p, Same H H' → H p = none → H' p = some (.lst ((toksT t).map sV)) → Q (.ref p) H'
theorem ok_tokens_in (T : Txt K mg) : ∀ n : Nat, FnOk P w K mg base CX0 (n + 1) T.a_law_tokens_in T.d_law_tokens_in ["_law_tree_here"] (spTokensIn n)
  | 0 => by
    refine T.D_law_tokens_in.F.ok sc_law_tokens_in (fun vs H Q E h => ?_) (fun cdv A outer s H vs Q E hr h => ?_)
    · obtain ⟨v, t, rfl, _⟩ := h
      rfl
    · obtain ⟨v, t, rfl, _, hd, _⟩ := h
      exact absurd hd (Nat.not_lt_zero _)
  | n + 1 => by
    have G_law_tokens_in : FnOk P w K mg base CX0 (n + 1) T.a_law_tokens_in T.d_law_tokens_in ["_law_tree_here"] (spTokensIn n) := ok_tokens_in T n
    refine T.D_law_tokens_in.F.ok sc_law_tokens_in (fun vs H Q E h => ?_) (fun cdv A outer s H vs Q E hr h => ?_)
    · obtain ⟨v, t, rfl, _⟩ := h
      rfl
    · obtain ⟨v, t, rfl, ⟨tp, us, rfl, hp, hR⟩, hd, hg, hn, q⟩ := h
      refine ⟨_, (pss_cons (ps_set (i := 1) sc_law_tokens_in.nd rfl (.inl rfl) (pe_lst pa_nil))
      (pss_cons (ps_for PassesOwn.never rfl (pi_tup (pv 0)) (pg_name (i := 2) sc_law_tokens_in.nd rfl (.inl rfl)) (pss_one (ps_if (pt_cmpR op_eq (pe_ix ix_tup (pv 2) pe_int (fun _ _ => rfl)) pe_str (nomark _)) (pss_one (ps_expr (pe_bm PySem.F.plainAttrs_list PySem.F.slot_list_append PySem.F.type_list_append mt_append (pv 1) (pa_cons (pe_ix ix_tup (pv 2) pe_int (fun _ _ => rfl)) pa_nil)))) (pss_cons (ps_expr (pe_bm PySem.F.plainAttrs_list PySem.F.slot_list_append PySem.F.type_list_append mt_append (pv 1) (pa_cons (pe_op op_add_str pe_str (pe_ix ix_tup (pv 2) pe_int (fun _ _ => rfl))) pa_nil)))
      (pss_one (ps_for PassesOwn.never rfl (pi_tup (pe_ix ix_tup (pv 2) pe_int (fun _ _ => rfl))) (pg_name (i := 3) sc_law_tokens_in.nd rfl (.inl rfl)) (pss_cons (ps_expr (pe_bm PySem.F.plainAttrs_list PySem.F.slot_list_append PySem.F.type_list_append mt_append (pv 1) (pa_cons pe_str pa_nil)))
      (pss_cons (ps_expr (pe_bm PySem.F.plainAttrs_list PySem.F.slot_list_extend PySem.F.type_list_extend mt_extend (pv 1) (pa_cons (pe_call G_law_tokens_in hr (by rfl) T.D_law_tokens_in.G T.D_law_tokens_in.F.kp T.D_law_tokens_in.B .nil pass0 (pa_cons (pv 3) pa_nil)) pa_nil)))
      (pss_one (ps_expr (pe_bm PySem.F.plainAttrs_list PySem.F.slot_list_append PySem.F.type_list_append mt_append (pv 1) (pa_cons pe_str pa_nil))))))))))))
      (pss_one (ps_ret (pv 1))))), ?_⟩
      refine ⟨by show 0 ≤ sizeLine; decide, fun F nF => ?_⟩
      have S0 : Same H (upd H F (.lst [])) := same_upd (Same.refl H) nF
      refine ⟨_, rfl, tp, rfl, ⟨_, SqT.of (S0 _ _ hp)⟩, ?_⟩
      refine for_tup (K := K) (a := tp) (xs := us) (fun i σ' H' => ∃ (r : Tr) (ds : List (List Nat)) (x2 x3 : Option V), σ' = [some (.ref tp), some (.ref F), x2, x3] ∧ RepT H r (us.drop i) ∧ Same H H' ∧ H' F = some (.lst (ds.map sV)) ∧ ds ++ toksT r = toksT t ∧ depT r < n + 1 ∧ GoodT r)
        ⟨t, [], none, none, rfl, hR, S0, upd_same, rfl, hd, hg⟩ ?_ ?_ ?_
      · rintro i σ' H' _ ⟨_, _, _, _, _, _, k, _⟩
        exact SqT.of (k _ _ hp)
      · rintro i x σ' H' hx ⟨r, ds, x2, x3, rfl, hr1, k1, e1, e2, d1, g1⟩
        rw [drop_x hx] at hr1
        have tk : TKeep H H' := TKeep.same k1
        have len1 : ds.length + (toksT r).length ≤ 50000 := by
          have e3 := congrArg List.length e2
          rw [List.length_append] at e3
          omega
        cases r with
        | nil => simp only [RepT] at hr1; cases hr1
        | word z r =>
          simp only [RepT, toksT, depT, GoodT] at hr1 e2 d1 g1 len1
          obtain ⟨y, vs', e3, hy, hr2⟩ := hr1
          injection e3 with e4 e5
          subst e4 e5
          have hy' := tk _ _ hy
          refine ⟨_, rfl, _, _, _, _, rfl, rfl, SqT.of hy', rfl, rfl, true, word_eq_word, ?_⟩
          refine ⟨.ref F, rfl, .inl ⟨rfl, _, .inl (.inl e1)⟩, _, rfl, _, _, _, _, rfl, rfl, SqT.of hy', rfl, F, _, _, rfl, rfl, e1, ?_, ?_⟩
          · rw [List.length_map]; rw [List.length_cons] at len1; exact lt_size (by omega)
          · refine ⟨r, ds ++ [z], _, _, rfl, hr2, same_mut k1 nF, ?_, ?_, d1, g1.2⟩
            · rw [upd_same, ← snoc_sV]
            · rw [List.append_assoc]; exact e2
        | call nm a r =>
          simp only [RepT, toksT, depT, GoodT] at hr1 e2 d1 g1 len1
          obtain ⟨y, y2, ws, vs', e3, hy, hy2, hA, hr2⟩ := hr1
          injection e3 with e4 e5
          subst e4 e5
          have nl := g1.1.len
          simp only [List.length_append, List.length_cons] at len1
          refine ⟨_, rfl, _, _, _, _, rfl, rfl, SqT.of (tk _ _ hy), rfl, rfl, false, call_ne_word, ?_⟩
          refine ⟨.ref F, rfl, .inl ⟨rfl, _, .inl (.inl e1)⟩, _, rfl, _, _, _, _, rfl, rfl, SqT.of (tk _ _ hy), rfl, _, _, rfl, rfl, ?_, ?_⟩
          · rw [at_len, mkS_len]; exact Nat.le_trans (show 1 + nm.length ≤ 100 by omega) (by decide)
          rw [at_app]
          refine ⟨F, _, _, rfl, rfl, e1, by rw [List.length_map]; exact lt_size (by omega), ?_⟩
          have S1 : Same H (upd H' F (.lst (ds.map sV ++ [sV (64 :: nm)]))) := same_mut k1 nF
          have tk1 := TKeep.same S1
          refine ⟨_, rfl, _, _, _, _, rfl, rfl, SqT.of (tk1 _ _ hy), rfl, y2, rfl, ⟨_, SqT.of (tk1 _ _ hy2)⟩, ?_⟩
          refine for_tup (K := K) (a := y2) (xs := ws) (fun j σ' H2 => ∃ (r : Ar) (es : List (List Nat)) (x3 : Option V), σ' = [some (.ref tp), some (.ref F), some (.ref y), x3] ∧ RepA H r (ws.drop j) ∧ Same H H2 ∧ H2 F = some (.lst ((ds ++ (64 :: nm) :: es).map sV)) ∧ es ++ toksA r = toksA a ∧ depA r < n + 1 ∧ GoodA r)
            ⟨a, [], x3, rfl, hA, S1, by rw [upd_same, snoc_sV]; rfl, rfl, by omega, g1.2.1⟩ ?_ ?_ ?_
          · rintro j σ' H2 _ ⟨_, _, _, _, _, k, _⟩
            exact SqT.of (k _ _ hy2)
          · rintro j x σ' H2 hx2 ⟨b, es, x4, rfl, hb, k2, f1, f2, d2, g2⟩
            rw [drop_x hx2] at hb
            have len2 : es.length + (toksA b).length = (toksA a).length := by
              have e3 := congrArg List.length f2
              rw [List.length_append] at e3
              omega
            cases b with
            | nil => simp only [RepA] at hb; cases hb
            | cons u b =>
              simp only [RepA, toksA, depA, GoodA] at hb f2 d2 g2 len2
              obtain ⟨c, cs, vs'', e3, hc, hu, hb2⟩ := hb
              injection e3 with e4 e5
              subst e4 e5
              simp only [List.length_append, List.length_cons] at len2
              refine ⟨.ref F, rfl, .inl ⟨rfl, _, .inl (.inl f1)⟩, F, _, _, rfl, rfl, f1, by rw [List.length_map]; exact lt_size (by simp only [List.length_append, List.length_cons]; omega), ?_⟩
              rw [brO_sV, ← snoc_sV]
              have S2 : Same H (upd H2 F (.lst ((ds ++ (64 :: nm) :: es ++ [[123]]).map sV))) := same_mut k2 nF
              have tk2 := TKeep.same S2
              refine ⟨.ref F, rfl, .inl ⟨rfl, _, .inl (.inl upd_same)⟩, _, rfl, .ref c, u, rfl, ⟨c, cs, rfl, tk2 _ _ hc, hu.keep tk2⟩, by omega, g2.1, by omega, fun H3 p3 s3 n3 h3 => ?_⟩
              have f3 : H3 F = some (.lst ((ds ++ (64 :: nm) :: es ++ [[123]]).map sV)) := s3 _ _ upd_same
              have npF : p3 ≠ F := fun e => by rw [e, upd_same] at n3; cases n3
              refine ⟨F, p3, _, _, rfl, rfl, f3, h3, ?_, ?_⟩
              · rw [List.length_map, List.length_map]; refine Nat.le_of_lt (lt_size ?_); simp only [List.length_append, List.length_cons, List.length_nil]; omega
              · have S3 : Same H H3 := S2.trans s3
                refine ⟨.ref F, rfl, .inl ⟨rfl, _, .inl (.inl upd_same)⟩, F, _, _, rfl, rfl, upd_same, ?_, ?_⟩
                · rw [List.length_append, List.length_map, List.length_map]; refine lt_size ?_; simp only [List.length_append, List.length_cons, List.length_nil]; omega
                · rw [brC_sV, ← List.map_append, ← snoc_sV]
                  refine ⟨b, es ++ [123] :: (toksT u ++ [[125]]), _, rfl, hb2, same_mut (same_mut S3 nF) nF, ?_, ?_, by omega, g2.2⟩
                  · rw [upd_same]
                    congr 3
                    simp only [List.append_assoc, List.cons_append, List.nil_append]
                  · rw [← f2]
                    simp only [List.append_assoc, List.cons_append, List.nil_append]
          · rintro σ' H2 ⟨b, es, x4, rfl, hb, k2, f1, f2, _⟩
            rw [List.drop_length] at hb
            cases b with
            | nil =>
              simp only [toksA, List.append_nil] at f2
              rw [f2] at f1
              refine ⟨r, ds ++ (64 :: nm) :: toksA a, _, _, rfl, hr2, k2, f1, ?_, by omega, g1.2.2⟩
              rw [List.append_assoc]; exact e2
            | cons t r =>
              simp only [RepA] at hb
              obtain ⟨_, _, _, e, _⟩ := hb
              cases e
      · rintro σ' H' ⟨r, ds, x2, x3, rfl, hr1, k1, e1, e2, _⟩
        rw [List.drop_length] at hr1
        cases r with
        | nil =>
          simp only [toksT, List.append_nil] at e2
          rw [e2] at e1
          exact ⟨_, rfl, q H' F k1 nF e1⟩
        | word z r =>
          simp only [RepT] at hr1
          obtain ⟨_, _, e, _⟩ := hr1
          cases e
        | call nm a r =>
          simp only [RepT] at hr1
          obtain ⟨_, _, _, _, e, _⟩ := hr1
          cases e
end
end Vf

set_option Elab.async false
set_option linter.all false
set_option maxRecDepth 100000
set_option maxHeartbeats 4000000
namespace Vf
open PySem PySem.Spec PyProof.Rows L2 TL
/-! ### drawn trees -/
/-- all but the dice and the count stands -/
def Kq (d L : Addr) (H H' : Hp) : Prop := ∀ b o, b ≠ d → b ≠ L → H b = some o → H' b = some o
theorem Kq.refl (d L : Addr) (H : Hp) : Kq d L H H := fun _ _ _ _ h => h
theorem Kq.trans {d L : Addr} {H H1 H2 : Hp} (a : Kq d L H H1) (b : Kq d L H1 H2) : Kq d L H H2 := fun x o n m h => b x o n m (a x o n m h)
theorem Kq.kp {d L : Addr} {H H1 H2 : Hp} (a : Kq d L H H1) (b : Kp d H1 H2) : Kq d L H H2 := fun x o n m h => b x o n (a x o n m h)
theorem Kq.mut {d L p : Addr} {H H1 : Hp} {o : HO} (a : Kq d L H H1) (h : H p = none) : Kq d L H (upd H1 p o) := fun x u n m e => by
  rw [upd_ne (ne_of_none e h)]; exact a x u n m e
theorem Kq.new {d L p : Addr} {H H1 : Hp} {o : HO} (a : Kq d L H H1) (h : H1 p = none) : Kq d L H (upd H1 p o) := fun x u n m e => by
  have e2 := a x u n m e
  rw [upd_ne (ne_of_none e2 h)]; exact e2
theorem Kq.at {d L : Addr} {H H1 : Hp} {o : HO} (a : Kq d L H H1) : Kq d L H (upd H1 L o) := fun x u n m e => by
  rw [upd_ne m]; exact a x u n m e
/-- between two steps of the making of a tree: its nodes so far stand at N -/
structure LT (d l L N : Addr) (dp : Nat) (H H1 : Hp) (vs : List V) (t : Tr) (m : Nat) : Prop where
  k : Kq d L H H1
  D : DI d l H1
  hL : H1 L = some (.lst [.int (m : Int)])
  hN : H1 N = some (.lst vs)
  R : RepT H1 t vs
  dt : depT t ≤ dp
  g : GoodT t
section
variable {d l L N : Addr} {dp m : Nat} {H H1 H2 : Hp} {vs : List V} {t : Tr}
theorem LT.kp (h : LT d l L N dp H H1 vs t m) (k : Kp d H1 H2) (D : DI d l H2) (nL : L ≠ d) (nN : N ≠ d) : LT d l L N dp H H2 vs t m :=
  ⟨h.k.kp k, D, k _ _ nL h.hL, k _ _ nN h.hN, h.R.keep (TKeep.kp k h.D), h.dt, h.g⟩
theorem LT.new {p : Addr} {o : HO} (h : LT d l L N dp H H1 vs t m) (hp : H1 p = none) : LT d l L N dp H (upd H1 p o) vs t m :=
  ⟨h.k.new hp, h.D.new hp, by rw [upd_ne (ne_of_none h.hL hp)]; exact h.hL, by rw [upd_ne (ne_of_none h.hN hp)]; exact h.hN, h.R.keep (TKeep.new hp), h.dt, h.g⟩
theorem LT.own {p : Addr} {o : HO} {xs : List V} (h : LT d l L N dp H H1 vs t m) (hp : H p = none) (h1 : H1 p = some (.lst xs)) (n1 : p ≠ d) (n2 : p ≠ l) (n3 : p ≠ L) (n4 : p ≠ N) : LT d l L N dp H (upd H1 p o) vs t m :=
  ⟨h.k.mut hp, h.D.at n1 n2, by rw [upd_ne n3.symm]; exact h.hL, by rw [upd_ne n4.symm]; exact h.hN, h.R.keep (TKeep.mut h1), h.dt, h.g⟩
theorem LT.left {m' : Nat} (h : LT d l L N dp H H1 vs t m) (n1 : L ≠ d) (n2 : L ≠ l) (n4 : L ≠ N) : LT d l L N dp H (upd H1 L (.lst [.int (m' : Int)])) vs t m' :=
  ⟨h.k.at, h.D.at n1 n2, upd_same, by rw [upd_ne n4.symm]; exact h.hN, h.R.keep (TKeep.mut h.hL), h.dt, h.g⟩
/-- one more node -/
theorem LT.node {v : V} {u : Tr} (h : LT d l L N dp H H1 vs t m) (hN : H N = none) (n1 : N ≠ d) (n2 : N ≠ l) (n3 : N ≠ L) (hu : RepT H1 u [v]) (du : depT u ≤ dp) (gu : GoodT u) :
    LT d l L N dp H (upd H1 N (.lst (vs ++ [v]))) (vs ++ [v]) (appT t u) m :=
  ⟨h.k.mut hN, h.D.at n1 n2, by rw [upd_ne n3.symm]; exact h.hL, upd_same, (h.R.app hu).keep (TKeep.mut h.hN), by rw [depT_app]; exact Nat.max_le.mpr ⟨h.dt, du⟩, GoodT_app h.g gu⟩
end
section
variable {P : Program} {w : World} {K : PySem.W.Frag} {mg : Str → Option Value} {base : Heap}
def spTree (n : Nat) : Sp := fun vs H Q _ => ∃ (d l L : Addr) (dp m : Nat), vs = [.ref d, .int (dp : Int), .ref L] ∧ DI d l H ∧ L ≠ d ∧ L ≠ l ∧ H L = some (.lst [.int (m : Int)]) ∧ m ≤ 200 ∧ dp < n ∧
  ∀ H' p us t m', Kq d L H H' → DI d l H' → H' L = some (.lst [.int (m' : Nat)]) → m' ≤ m → H' p = some (.tup us) → RepT H' t us → depT t ≤ dp → GoodT t → (toksT t).length ≤ 49 * (m - m') → Q (.ref p) H'
theorem ok_tree (T : Txt K mg) : ∀ n : Nat, FnOk P w K mg base CX0 (n + 5) T.a_law_tree T.d_law_tree ["_law_d", "_law_deep", "_law_left"] (spTree n)
  | 0 => by
    refine T.D_law_tree.F.ok sc_law_tree (fun vs H Q E h => ?_) (fun cdv A outer s H vs Q E hr h => ?_)
    · obtain ⟨d, l, L, dp, m, rfl, _⟩ := h
      rfl
    · obtain ⟨d, l, L, dp, m, rfl, _, _, _, _, _, hd, _⟩ := h
      exact absurd hd (Nat.not_lt_zero _)
  | n + 1 => by
    have G_law_tree : FnOk P w K mg base CX0 (n + 5) T.a_law_tree T.d_law_tree ["_law_d", "_law_deep", "_law_left"] (spTree n) := ok_tree T n
    have G_law_draw : FnOk P w K mg base CX0 1 T.a_law_draw T.d_law_draw ["_law_d", "_law_many"] spDraw := ok_draw T
    have G_law_some_word : FnOk P w K mg base CX0 4 T.a_law_some_word T.d_law_some_word ["_law_d"] (spStr RWord) := ok_some_word T
    have G_law_some_name : FnOk P w K mg base CX0 4 T.a_law_some_name T.d_law_some_name ["_law_d"] (spStr RName) := ok_some_name T
    refine T.D_law_tree.F.ok (k := n + 5) sc_law_tree (fun vs H Q E h => ?_) (fun cdv A outer s H vs Q E hr h => ?_)
    · obtain ⟨d, l, L, dp, m, rfl, _⟩ := h
      rfl
    · obtain ⟨d, l, L, dp, m, rfl, hD, nLd, nLl, hL, hm, hdp, q⟩ := h
      refine ⟨_, (pss_cons (ps_set (i := 3) sc_law_tree.nd rfl (.inl rfl) (pe_lst pa_nil))
      (pss_cons (ps_set (i := 4) sc_law_tree.nd rfl (.inl rfl) (pe_call G_law_draw (hr.mono (by omega)) (by rfl) T.D_law_draw.G T.D_law_draw.F.kp T.D_law_draw.B .nil pass0 (pa_cons (pv 0) (pa_cons pe_int pa_nil))))
      (Evl.pss_cut (ps_if (pt_cmpR op_eq (pv 4) pe_int (nomark _)) (pss_one (ps_set (i := 4) sc_law_tree.nd rfl (.inl rfl) (pe_op op_add (pv 4) (pe_call G_law_draw (hr.mono (by omega)) (by rfl) T.D_law_draw.G T.D_law_draw.F.kp T.D_law_draw.B .nil pass0 (pa_cons (pv 0) (pa_cons pe_int pa_nil)))))) pss_nil)
      (pss_cons (ps_for PassesOwn.never rfl (pi_range1 (by rfl) T.n_range (pa_cons (pv 4) pa_nil)) (pg_name (i := 5) sc_law_tree.nd rfl (.inl rfl)) (pss_cons (ps_if (pt_cmpR op_eq (pe_ix ix_list (pv 2) pe_int (fun _ _ => rfl)) pe_int (nomark _)) (pss_one ps_break) pss_nil)
      (pss_cons (ps_asg (pe_op op_sub (pe_ix ix_list (pv 2) pe_int (fun _ _ => rfl)) pe_int) (pg_sub (pv 2) pe_int set_list))
      (pss_cons (ps_if (pt_cmpR op_eq (pe_call G_law_draw (hr.mono (by omega)) (by rfl) T.D_law_draw.G T.D_law_draw.F.kp T.D_law_draw.B .nil pass0 (pa_cons (pv 0) (pa_cons pe_int pa_nil))) pe_int (nomark _)) (pss_cons (ps_expr (pe_bm PySem.F.plainAttrs_list PySem.F.slot_list_append PySem.F.type_list_append mt_append (pv 3) (pa_cons (pe_tup (pa_cons pe_str (pa_cons (pe_call G_law_some_word (hr.mono (by omega)) (by rfl) T.D_law_some_word.G T.D_law_some_word.F.kp T.D_law_some_word.B .nil pass0 (pa_cons (pv 0) pa_nil)) pa_nil))) pa_nil)))
      (pss_one ps_continue)) pss_nil)
      (pss_cons (ps_set (i := 6) sc_law_tree.nd rfl (.inl rfl) (pe_lst pa_nil))
      (Evl.pss_cut (ps_if (pt_cmpR op_gt (pv 1) pe_int (nomark _)) (pss_cons (ps_set (i := 7) sc_law_tree.nd rfl (.inl rfl) (pe_call G_law_draw (hr.mono (by omega)) (by rfl) T.D_law_draw.G T.D_law_draw.F.kp T.D_law_draw.B .nil pass0 (pa_cons (pv 0) (pa_cons pe_int pa_nil))))
      (Evl.pss_cut (ps_if (pt_cmpR op_eq (pv 7) pe_int (nomark _)) (pss_one (ps_set (i := 7) sc_law_tree.nd rfl (.inl rfl) (pe_op op_add (pv 7) (pe_call G_law_draw (hr.mono (by omega)) (by rfl) T.D_law_draw.G T.D_law_draw.F.kp T.D_law_draw.B .nil pass0 (pa_cons (pv 0) (pa_cons pe_int pa_nil)))))) pss_nil)
      (Evl.pss_cut (ps_if (pt_cmpR op_eq (pv 7) pe_int (nomark _)) (pss_one (ps_set (i := 7) sc_law_tree.nd rfl (.inl rfl) (pe_op op_add (pv 7) (pe_call G_law_draw (hr.mono (by omega)) (by rfl) T.D_law_draw.G T.D_law_draw.F.kp T.D_law_draw.B .nil pass0 (pa_cons (pv 0) (pa_cons pe_int pa_nil)))))) pss_nil)
      (pss_one (ps_for PassesOwn.never rfl (pi_range1 (by rfl) T.n_range (pa_cons (pv 7) pa_nil)) (pg_name (i := 8) sc_law_tree.nd rfl (.inl rfl)) (pss_one (ps_expr (pe_bm PySem.F.plainAttrs_list PySem.F.slot_list_append PySem.F.type_list_append mt_append (pv 6) (pa_cons (pe_call G_law_tree (hr.mono (by omega)) (by rfl) T.D_law_tree.G T.D_law_tree.F.kp T.D_law_tree.B .nil pass0 (pa_cons (pv 0) (pa_cons (pe_op op_sub (pv 1) pe_int) (pa_cons (pv 2) pa_nil)))) pa_nil))))))))) pss_nil)
      (pss_one (ps_expr (pe_bm PySem.F.plainAttrs_list PySem.F.slot_list_append PySem.F.type_list_append mt_append (pv 3) (pa_cons (pe_tup (pa_cons pe_str (pa_cons (pe_call G_law_some_name (hr.mono (by omega)) (by rfl) T.D_law_some_name.G T.D_law_some_name.F.kp T.D_law_some_name.B .nil pass0 (pa_cons (pv 0) pa_nil)) (pa_cons (pe_callTy call_tuple_of (by rfl) T.n_tuple (by decide +kernel) (pa_cons (pv 6) pa_nil)) pa_nil)))) pa_nil))))))))))
      (pss_one (ps_ret (pe_callTy call_tuple_of (by rfl) T.n_tuple (by decide +kernel) (pa_cons (pv 3) pa_nil)))))))), ?_⟩
      refine ⟨by show 0 ≤ sizeLine; decide, fun N nN => ?_⟩
      have nd := hD.nd nN
      have nNL : N ≠ L := fun e => by rw [e, hL] at nN; cases nN
      have T0 : LT d l L N dp H (upd H N (.lst [])) [] .nil m := ⟨(Kq.refl d L H).new nN, hD.new nN, by rw [upd_ne nNL.symm]; exact hL, upd_same, by simp only [RepT], by simp only [depT]; exact Nat.zero_le _, by simp only [GoodT]⟩
      -- many
      refine ⟨_, rfl, d, l, _, rfl, T0.D, by decide, fun H1 r K1 D1 _ r2 => ?_⟩
      have T1 := T0.kp K1 D1 nLd nd.1
      have r3 := r2 (by decide)
      refine ⟨fun σ' H' => ∃ many : Int, 0 ≤ many ∧ many ≤ 100 ∧ σ' = [some (.ref d), some (.int (dp : Int)), some (.ref L), some (.ref N), some (.int many), none, none, none, none] ∧ LT d l L N dp H H' [] .nil m, ?_, ?_⟩
      · refine ⟨_, rfl, rfl, _, rfl, ite2 (fun _ => ?_) (fun _ => ?_)⟩
        · refine ⟨_, rfl, _, rfl, d, l, _, rfl, D1, by decide, fun H2 r' K2 D2 _ e2 => ?_⟩
          have e3 := e2 (by decide)
          exact ⟨_, _, rfl, rfl, r + r', by omega, by omega, rfl, T1.kp K2 D2 nLd nd.1⟩
        · exact ⟨r, by omega, by omega, rfl, T1⟩
      · rintro σ' H2 ⟨many, m0, m1, rfl, T2⟩
        -- the end
        have fin : ∀ (σ' : L2.St) (H' : Hp) (vs : List V) (t : Tr) (m' : Nat), σ'[3]? = some (some (.ref N)) → LT d l L N dp H H' vs t m' → m' ≤ m → (toksT t).length ≤ 49 * (m - m') →
            ∃ v, σ'[3]? = some (some v) ∧ ∃ p ys, [v] = [V.ref p] ∧ ((SqL K H' p ys ∧ ∀ l, H' l = none → Q (.ref l) (upd H' l (.tup ys))) ∨ (SqT K H' p ys ∧ Q (.ref p) H')) := by
          intro σ' H' vs t m' h3 T3 hm' hb
          refine ⟨_, h3, N, vs, rfl, .inl ⟨SqL.of T3.hN, fun u nu => ?_⟩⟩
          have T4 := T3.new (o := .tup vs) nu
          exact q _ u vs t m' T4.k T4.D T4.hL hm' upd_same T4.R T4.dt T4.g hb
        refine ⟨_, rfl, many, rfl, by omega, by omega, ?_⟩
        refine for_range (lo := 0) (n := many.toNat) (fun i σ' H' => ∃ (vs : List V) (t : Tr) (m' : Nat) (x5 x6 x7 x8 : Option V), σ' = [some (.ref d), some (.int (dp : Int)), some (.ref L), some (.ref N), some (.int many), x5, x6, x7, x8] ∧ LT d l L N dp H H' vs t m' ∧ m' ≤ m ∧ (toksT t).length ≤ 49 * (m - m'))
          ⟨[], .nil, m, none, none, none, none, rfl, T2, Nat.le_refl _, by simp only [toksT]; exact Nat.zero_le _⟩ ?_ ?_
        · rintro i σ' H3 hi ⟨vs, t, m', x5, x6, x7, x8, rfl, T3, hm', hb⟩
          have vl : vs.length < 20000 := by
            have := T3.R.len
            have : 49 * (m - m') ≤ 49 * 200 := Nat.mul_le_mul_left _ (by omega)
            omega
          refine ⟨_, rfl, _, _, _, _, rfl, rfl, SqL.of T3.hL, rfl, rfl, _, rfl, ite2 (fun e => ?_) (fun e => ?_)⟩
          · exact fin _ H3 vs t m' rfl T3 hm' hb
          have hm0 : m' ≠ 0 := fun z => e (decide_eq_true (by rw [z]; rfl))
          obtain ⟨m2, rfl⟩ : ∃ m2, m' = m2 + 1 := ⟨m' - 1, by omega⟩
          refine ⟨_, rfl, _, _, _, _, rfl, rfl, SqL.of T3.hL, rfl, _, _, rfl, rfl, _, rfl, _, _, _, _, rfl, rfl, T3.hL, rfl, ?_⟩
          have eL : ((m2 + 1 : Nat) : Int) - 1 = (m2 : Int) := by omega
          show tSeq _ _ _ _ (upd H3 L (.lst [.int (((m2 + 1 : Nat) : Int) - 1)]))
          rw [eL]
          have T4 := T3.left (m' := m2) nLd nLl nNL.symm
          refine ⟨_, rfl, d, l, _, rfl, T4.D, by decide, fun H4 r4 K4 D4 _ e4 => ?_⟩
          have T5 := T4.kp K4 D4 nLd nd.1
          refine ⟨rfl, _, rfl, ite2 (fun _ => ?_) (fun _ => ?_)⟩
          · -- a word
            refine ⟨.ref N, rfl, .inl ⟨rfl, _, .inl (.inl T5.hN)⟩, _, rfl, d, l, rfl, D4, fun H5 zs K5 D5 hz => ?_⟩
            have T6 := T5.kp K5 D5 nLd nd.1
            refine ⟨by show 2 ≤ sizeLine; decide, fun p np => ?_⟩
            have T7 := T6.new (o := .tup [kWord, sV zs]) np
            refine ⟨N, _, _, rfl, rfl, T7.hN, lt_size (by omega), ?_⟩
            have T8 := T7.node (v := .ref p) (u := .word zs .nil) nN nd.1 nd.2 nNL (by simp only [RepT]; exact ⟨p, [], rfl, upd_same, rfl⟩) (by simp only [depT]; exact Nat.zero_le _) (by simp only [GoodT]; exact ⟨hz, trivial⟩)
            refine ⟨_, _, m2, _, _, _, _, rfl, T8, by omega, ?_⟩
            rw [toksT_app, List.length_append]
            simp only [toksT, List.length_cons, List.length_nil]
            omega
          · -- a call
            refine ⟨by show 0 ≤ sizeLine; decide, fun A nA => ?_⟩
            have T6 := T5.new (o := .lst []) nA
            have nAH : H A = none := by
              cases e9 : H A with
              | none => rfl
              | some o =>
                by_cases h1 : A = d
                · obtain ⟨_, _, _, _, _, _, _, e2⟩ := D4
                  rw [h1, e2] at nA; cases nA
                · by_cases h2 : A = L
                  · rw [h2, T5.hL] at nA; cases nA
                  · rw [T5.k _ _ h1 h2 e9] at nA; cases nA
            have ndA := D4.nd nA
            have nAL : A ≠ L := fun z => by rw [z, T5.hL] at nA; cases nA
            have nAN : A ≠ N := fun z => by rw [z, T5.hN] at nA; cases nA
            refine ⟨fun σ' H' => ∃ (ar : Ar) (ws : List V) (m' : Nat) (x7 x8 : Option V), σ' = [some (.ref d), some (.int (dp : Int)), some (.ref L), some (.ref N), some (.int many), some (.int (0 + (i : Int))), some (.ref A), x7, x8] ∧ LT d l L N dp H H' vs t m' ∧ H' A = some (.lst ws) ∧ RepA H' ar ws ∧ depA ar ≤ dp ∧ GoodA ar ∧ m' ≤ m2 ∧ (toksA ar).length ≤ 49 * (m2 - m') + 48, ?_, ?_⟩
            · refine ⟨_, rfl, _, _, rfl, rfl, _, rfl, ite2 (fun e5 => ?_) (fun e5 => ?_)⟩
              · have hdp0 : 0 < dp := by have := of_decide_eq_true e5; omega
                refine ⟨_, rfl, d, l, _, rfl, T6.D, by decide, fun H5 r5 K5 D5 _ e6 => ?_⟩
                have r6 := e6 (by decide)
                have T7 := T6.kp K5 D5 nLd nd.1
                have A7 : H5 A = some (.lst []) := K5 _ _ ndA.1 upd_same
                refine ⟨fun σ' H' => ∃ wide : Int, 0 ≤ wide ∧ wide ≤ 11 ∧ σ' = [some (.ref d), some (.int (dp : Int)), some (.ref L), some (.ref N), some (.int many), some (.int (0 + (i : Int))), some (.ref A), some (.int wide), x8] ∧ LT d l L N dp H H' vs t m2 ∧ H' A = some (.lst []), ?_, ?_⟩
                · refine ⟨_, rfl, rfl, _, rfl, ite2 (fun _ => ?_) (fun _ => ?_)⟩
                  · refine ⟨_, rfl, _, rfl, d, l, _, rfl, D5, by decide, fun H6 r' K6 D6 _ e8 => ?_⟩
                    have e9 := e8 (by decide)
                    exact ⟨_, _, rfl, rfl, r5 + r', by omega, by omega, rfl, T7.kp K6 D6 nLd nd.1, K6 _ _ ndA.1 A7⟩
                  · exact ⟨r5, by omega, by omega, rfl, T7, A7⟩
                rintro σ' H6 ⟨wide, w0, w1, rfl, T8, A8⟩
                refine ⟨fun σ' H' => ∃ wide : Int, 0 ≤ wide ∧ wide ≤ 24 ∧ σ' = [some (.ref d), some (.int (dp : Int)), some (.ref L), some (.ref N), some (.int many), some (.int (0 + (i : Int))), some (.ref A), some (.int wide), x8] ∧ LT d l L N dp H H' vs t m2 ∧ H' A = some (.lst []), ?_, ?_⟩
                · refine ⟨_, rfl, rfl, _, rfl, ite2 (fun _ => ?_) (fun _ => ?_)⟩
                  · refine ⟨_, rfl, _, rfl, d, l, _, rfl, T8.D, by decide, fun H7 r' K7 D7 _ e8 => ?_⟩
                    have e9 := e8 (by decide)
                    exact ⟨_, _, rfl, rfl, wide + r', by omega, by omega, rfl, T8.kp K7 D7 nLd nd.1, K7 _ _ ndA.1 A8⟩
                  · exact ⟨wide, w0, by omega, rfl, T8, A8⟩
                rintro σ' H7 ⟨wide, w0, w1, rfl, T9, A9⟩
                refine ⟨_, rfl, wide, rfl, by omega, by omega, ?_⟩
                refine for_range (lo := 0) (n := wide.toNat) (fun j σ' H' => ∃ (ar : Ar) (ws : List V) (m' : Nat) (x8 : Option V), σ' = [some (.ref d), some (.int (dp : Int)), some (.ref L), some (.ref N), some (.int many), some (.int (0 + (i : Int))), some (.ref A), some (.int wide), x8] ∧ LT d l L N dp H H' vs t m' ∧ H' A = some (.lst ws) ∧ RepA H' ar ws ∧ depA ar ≤ dp ∧ GoodA ar ∧ m' ≤ m2 ∧ (toksA ar).length ≤ 49 * (m2 - m') + 2 * j)
                  ⟨.nil, [], m2, x8, rfl, T9, A9, by simp only [RepA], by simp only [depA]; exact Nat.zero_le _, by simp only [GoodA], Nat.le_refl _, by simp only [toksA]; exact Nat.zero_le _⟩ ?_ ?_
                · rintro j σ' H8 hj ⟨ar, ws, m', y8, rfl, U, aA, rA, dA, gA, hm2, hb2⟩
                  refine ⟨.ref A, rfl, .inl ⟨rfl, _, .inl (.inl aA)⟩, _, rfl, _, rfl, _, _, rfl, rfl, _, rfl, d, l, L, dp - 1, m', ?_, U.D, nLd, nLl, U.hL, by omega, by omega, fun H9 p us t' m3 K9 D9 L9 hm3 p9 r9 d9 g9 b9 => ?_⟩
                  · show [V.ref d, V.int ((dp : Int) - 1), V.ref L] = _
                    rw [show ((dp : Int) - 1) = ((dp - 1 : Nat) : Int) from by omega]
                  have tk : TKeep H8 H9 := fun p xs e => K9 _ _ (fun z => by
                    obtain ⟨_, _, _, _, _, _, _, e2⟩ := U.D
                    rw [z, e2] at e; cases e) (fun z => by rw [z, U.hL] at e; cases e) e
                  have N9 : H9 N = some (.lst vs) := K9 _ _ nd.1 nNL U.hN
                  have A10 : H9 A = some (.lst ws) := K9 _ _ ndA.1 nAL aA
                  have U2 : LT d l L N dp H H9 vs t m3 := ⟨U.k.trans K9, D9, L9, N9, U.R.keep tk, U.dt, U.g⟩
                  have rl := (rA.keep tk).len
                  have e50 : 49 * (m2 - m') ≤ 49 * 200 := Nat.mul_le_mul_left _ (by omega)
                  refine ⟨A, _, _, rfl, rfl, A10, lt_size (by omega), ?_⟩
                  have U3 := U2.own (o := .lst (ws ++ [.ref p])) nAH A10 ndA.1 ndA.2 nAL nAN
                  refine ⟨appA ar (.cons t' .nil), ws ++ [.ref p], m3, _, rfl, U3, upd_same, ?_, ?_, ?_, by omega, ?_⟩
                  · refine RepA.keep (TKeep.mut A10) (RepA.app (rA.keep tk) ?_)
                    simp only [RepA]
                    exact ⟨p, us, [], rfl, p9, r9, rfl⟩
                  · rw [depA_app]
                    simp only [depA]
                    omega
                  · exact GoodA_app gA (by simp only [GoodA]; exact ⟨g9, trivial⟩)
                  · rw [toksA_app]
                    simp only [toksA, List.length_append, List.length_cons, List.length_nil]
                    omega
                · rintro σ' H8 ⟨ar, ws, m', y8, rfl, U, aA, rA, dA, gA, hm2, hb2⟩
                  exact ⟨ar, ws, m', _, _, rfl, U, aA, rA, dA, gA, hm2, by omega⟩
              · exact ⟨.nil, [], m2, _, _, rfl, T6, upd_same, by simp only [RepA], by simp only [depA]; exact Nat.zero_le _, by simp only [GoodA], Nat.le_refl _, by simp only [toksA]; exact Nat.zero_le _⟩
            · rintro σ' H5 ⟨ar, ws, m', y7, y8, rfl, U, aA, rA, dA, gA, hm2, hb2⟩
              refine ⟨.ref N, rfl, .inl ⟨rfl, _, .inl (.inl U.hN)⟩, _, rfl, d, l, rfl, U.D, fun H6 nm K6 D6 hn => ?_⟩
              have U2 := U.kp K6 D6 nLd nd.1
              have A6 : H6 A = some (.lst ws) := K6 _ _ ndA.1 aA
              have rA6 := rA.keep (TKeep.kp K6 U.D)
              refine ⟨_, rfl, A, ws, rfl, .inl ⟨SqL.of A6, fun c nc => ?_⟩⟩
              have U3 := U2.new (o := .tup ws) nc
              have rA7 := rA6.keep (TKeep.new (o := .tup ws) nc)
              refine ⟨by show 3 ≤ sizeLine; decide, fun p np => ?_⟩
              have U4 := U3.new (o := .tup [kCall, sV nm, .ref c]) np
              have rA8 := rA7.keep (TKeep.new (o := .tup [kCall, sV nm, .ref c]) np)
              refine ⟨N, _, _, rfl, rfl, U4.hN, lt_size (by omega), ?_⟩
              have U5 := U4.node (v := .ref p) (u := .call nm ar .nil) nN nd.1 nd.2 nNL (by
                simp only [RepT]
                exact ⟨p, c, ws, [], rfl, upd_same, by rw [upd_ne (ne_of_none upd_same np)]; exact upd_same, rA8, rfl⟩) (by simp only [depT]; omega) (by simp only [GoodT]; exact ⟨hn, gA, trivial⟩)
              refine ⟨_, _, m', _, _, _, _, rfl, U5, by omega, ?_⟩
              rw [toksT_app, List.length_append]
              simp only [toksT, List.length_append, List.length_cons, List.length_nil]
              omega
        · rintro σ' H3 ⟨vs, t, m', x5, x6, x7, x8, rfl, T3, hm', hb⟩
          exact fin _ H3 vs t m' rfl T3 hm' hb
end
end Vf

set_option Elab.async false
set_option linter.all false
set_option maxRecDepth 100000
set_option maxHeartbeats 4000000
namespace Vf
open PySem PySem.Spec PyProof.Rows L2 TL
section
variable {P : Program} {w : World} {K : PySem.W.Frag} {mg : Str → Option Value} {base : Heap}
def spWrapped : Sp := fun vs H Q _ => ∃ (d l : Addr) (v : V) (t : Tr), vs = [.ref d, v] ∧ DI d l H ∧ TV H v t ∧ GoodT t ∧
  ∀ H' v' t', Kp d H H' → DI d l H' → TV H' v' t' → depT t' ≤ depT t + 1 → GoodT t' → (toksT t').length ≤ (toksT t).length + 8 → Q v' H'
theorem ok_wrapped (T : Txt K mg) : FnOk P w K mg base CX0 5 T.a_law_wrapped T.d_law_wrapped ["_law_d", "_law_tree_here"] spWrapped := by
  have G_law_draw : FnOk P w K mg base CX0 1 T.a_law_draw T.d_law_draw ["_law_d", "_law_many"] spDraw := ok_draw T
  have G_law_pick : FnOk P w K mg base CX0 2 T.a_law_pick T.d_law_pick ["_law_d", "_law_row"] (spPick K) := ok_pick T
  have G_law_some_word : FnOk P w K mg base CX0 4 T.a_law_some_word T.d_law_some_word ["_law_d"] (spStr RWord) := ok_some_word T
  have G_law_some_name : FnOk P w K mg base CX0 4 T.a_law_some_name T.d_law_some_name ["_law_d"] (spStr RName) := ok_some_name T
  refine T.D_law_wrapped.F.ok sc_law_wrapped (fun vs H Q E h => ?_) (fun cdv A outer s H vs Q E hr h => ?_)
  · obtain ⟨d, l, v, t, rfl, _⟩ := h
    rfl
  · obtain ⟨d, l, v, t, rfl, hD, ⟨tp, us, rfl, ht, hR⟩, hg, q⟩ := h
    refine ⟨_, (pss_cons (ps_set (i := 2) sc_law_wrapped.nd rfl (.inl rfl) (pe_call G_law_pick (hr.mono (by decide)) (by rfl) T.D_law_pick.G T.D_law_pick.F.kp T.D_law_pick.B .nil pass0 (pa_cons (pv 0) (pa_cons (pe_lst (pa_cons (pe_tup (pa_cons (pv 1) pa_nil)) (pa_cons (pe_tup (pa_cons (pv 1) pa_nil)) (pa_cons (pe_tup (pa_cons (pe_tup pa_nil) (pa_cons (pv 1) pa_nil))) (pa_cons (pe_tup (pa_cons (pv 1) (pa_cons (pe_tup pa_nil) pa_nil))) pa_nil))))) pa_nil))))
      (pss_cons (ps_set (i := 3) sc_law_wrapped.nd rfl (.inl rfl) (pe_tup (pa_cons pe_str (pa_cons (pe_call G_law_some_name (hr.mono (by decide)) (by rfl) T.D_law_some_name.G T.D_law_some_name.F.kp T.D_law_some_name.B .nil pass0 (pa_cons (pv 0) pa_nil)) (pa_cons (pv 2) pa_nil)))))
      (pss_cons (ps_set (i := 4) sc_law_wrapped.nd rfl (.inl rfl) (pe_call G_law_draw (hr.mono (by decide)) (by rfl) T.D_law_draw.G T.D_law_draw.F.kp T.D_law_draw.B .nil pass0 (pa_cons (pv 0) (pa_cons pe_int pa_nil))))
      (pss_cons (ps_if (pt_cmpR op_eq (pv 4) pe_int (nomark _)) (pss_one (ps_ret (pe_tup (pa_cons (pe_tup (pa_cons pe_str (pa_cons (pe_call G_law_some_word (hr.mono (by decide)) (by rfl) T.D_law_some_word.G T.D_law_some_word.F.kp T.D_law_some_word.B .nil pass0 (pa_cons (pv 0) pa_nil)) pa_nil))) (pa_cons (pv 3) pa_nil))))) pss_nil)
      (pss_cons (ps_if (pt_cmpR op_eq (pv 4) pe_int (nomark _)) (pss_one (ps_ret (pe_tup (pa_cons (pv 3) (pa_cons (pe_tup (pa_cons pe_str (pa_cons (pe_call G_law_some_word (hr.mono (by decide)) (by rfl) T.D_law_some_word.G T.D_law_some_word.F.kp T.D_law_some_word.B .nil pass0 (pa_cons (pv 0) pa_nil)) pa_nil))) pa_nil))))) pss_nil)
      (pss_one (ps_ret (pe_tup (pa_cons (pv 3) pa_nil))))))))), ?_⟩
    have z1 : (1 : Nat) ≤ sizeLine := by decide
    have z2 : (2 : Nat) ≤ sizeLine := by decide
    refine ⟨_, rfl, _, rfl, z1, fun p1 n1 => ?_⟩
    refine ⟨_, rfl, z1, fun p2 n2 => ?_⟩
    refine ⟨Nat.zero_le _, fun e1 m1 => ⟨_, rfl, z2, fun p3 n3 => ?_⟩⟩
    refine ⟨_, rfl, Nat.zero_le _, fun e2 m2 => ⟨z2, fun p4 n4 => ?_⟩⟩
    refine ⟨by show 4 ≤ sizeLine; decide, fun q1 nq => ?_⟩
    have k1 : TKeep H _ := TKeep.new (o := .tup [.ref tp]) n1
    have k2 := TKeep.new (o := .tup [.ref tp]) n2
    have k3 := TKeep.new (o := .tup []) m1
    have k4 := TKeep.new (o := .tup [.ref e1, .ref tp]) n3
    have k5 := TKeep.new (o := .tup []) m2
    have k6 := TKeep.new (o := .tup [.ref tp, .ref e2]) n4
    have k7 := TKeep.new (o := .lst [.ref p1, .ref p2, .ref p3, .ref p4]) nq
    have D7 := ((((((hD.new (o := .tup [.ref tp]) n1).new (o := .tup [.ref tp]) n2).new (o := .tup []) m1).new (o := .tup [.ref e1, .ref tp]) n3).new (o := .tup []) m2).new (o := .tup [.ref tp, .ref e2]) n4).new (o := .lst [.ref p1, .ref p2, .ref p3, .ref p4]) nq
    have KK : Kp d H _ := ((((((((Kp.refl d H).new (o := .tup [.ref tp]) n1).new (o := .tup [.ref tp]) n2).new (o := .tup []) m1).new (o := .tup [.ref e1, .ref tp]) n3).new (o := .tup []) m2).new (o := .tup [.ref tp, .ref e2]) n4).new (o := .lst [.ref p1, .ref p2, .ref p3, .ref p4]) nq)
    refine ⟨d, l, _, _, rfl, D7, .inl ⟨q1, rfl, (DI.nd ((((((hD.new (o := .tup [.ref tp]) n1).new (o := .tup [.ref tp]) n2).new (o := .tup []) m1).new (o := .tup [.ref e1, .ref tp]) n3).new (o := .tup []) m2).new (o := .tup [.ref tp, .ref e2]) n4) nq).1, SqL.of upd_same⟩, by show 0 < 4; decide, by show 4 ≤ 1000; decide, fun H2 v K2 D2 hv => ?_⟩
    have k8 := TKeep.kp K2 D7
    have K3 : Kp d H H2 := KK.trans K2
    have kt := TKeep.kp K3 hD
    have ht2 := kt _ _ ht
    have hR2 := hR.keep kt
    -- what has been picked
    have hv2 : ∃ (c : Addr) (ar : Ar) (ws : List V), v = .ref c ∧ H2 c = some (.tup ws) ∧ RepA H2 ar ws ∧ depA ar ≤ depT t + 1 ∧ GoodA ar ∧ (toksA ar).length ≤ (toksT t).length + 4 := by
      simp only [List.mem_cons, List.not_mem_nil, or_false] at hv
      have hone : ∀ c, H2 c = some (.tup [.ref tp]) → ∃ (c' : Addr) (ar : Ar) (ws : List V), V.ref c = .ref c' ∧ H2 c' = some (.tup ws) ∧ RepA H2 ar ws ∧ depA ar ≤ depT t + 1 ∧ GoodA ar ∧ (toksA ar).length ≤ (toksT t).length + 4 := fun c hc =>
        ⟨c, .cons t .nil, _, rfl, hc, by simp only [RepA]; exact ⟨tp, us, [], rfl, ht2, hR2, rfl⟩, by simp only [depA]; omega, by simp only [GoodA]; exact ⟨hg, trivial⟩, by simp only [toksA, List.length_append, List.length_cons, List.length_nil]; omega⟩
      rcases hv with rfl | rfl | rfl | rfl
      · exact hone p1 (k8 _ _ (k7 _ _ (k6 _ _ (k5 _ _ (k4 _ _ (k3 _ _ (k2 _ _ upd_same)))))))
      · exact hone p2 (k8 _ _ (k7 _ _ (k6 _ _ (k5 _ _ (k4 _ _ (k3 _ _ upd_same))))))
      · refine ⟨p3, .cons .nil (.cons t .nil), _, rfl, k8 _ _ (k7 _ _ (k6 _ _ (k5 _ _ upd_same))), ?_, by simp only [depA, depT]; omega, by simp only [GoodA, GoodT]; exact ⟨trivial, hg, trivial⟩, by simp only [toksA, toksT, List.length_append, List.length_cons, List.length_nil]; omega⟩
        simp only [RepA, RepT]
        exact ⟨e1, [], _, rfl, k8 _ _ (k7 _ _ (k6 _ _ (k5 _ _ (k4 _ _ upd_same)))), rfl, tp, us, [], rfl, ht2, hR2, rfl⟩
      · refine ⟨p4, .cons t (.cons .nil .nil), _, rfl, k8 _ _ (k7 _ _ upd_same), ?_, by simp only [depA, depT]; omega, by simp only [GoodA, GoodT]; exact ⟨hg, trivial, trivial⟩, by simp only [toksA, toksT, List.length_append, List.length_cons, List.length_nil]; omega⟩
        simp only [RepA, RepT]
        exact ⟨tp, us, _, rfl, ht2, hR2, e2, [], [], rfl, k8 _ _ (k7 _ _ (k6 _ _ upd_same)), rfl, rfl⟩
    obtain ⟨c, ar, ws, rfl, hc, hA, dA, gA, bA⟩ := hv2
    -- the call
    refine ⟨_, rfl, d, l, rfl, D2, fun H4 nm K4 D4 hn => ?_⟩
    refine ⟨_, rfl, by show 3 ≤ sizeLine; decide, fun cp nc => ?_⟩
    have kc := (TKeep.kp K4 D2).trans (TKeep.new (o := .tup [kCall, sV nm, .ref c]) nc)
    have D5 : DI d l _ := D4.new (o := .tup [kCall, sV nm, .ref c]) nc
    have K5 : Kp d H _ := (K3.trans K4).new (o := .tup [kCall, sV nm, .ref c]) nc
    have c5 := kc _ _ hc
    have A5 := hA.keep kc
    -- what follows
    refine ⟨_, rfl, d, l, _, rfl, D5, by decide, fun H6 r6 K6 D6 _ _ => ?_⟩
    have k6' := TKeep.kp K6 D5
    have cp6 : H6 cp = some (.tup [kCall, sV nm, .ref c]) := k6' _ _ upd_same
    have c6 := k6' _ _ c5
    have A6 := A5.keep k6'
    have K7 := K5.trans K6
    refine ⟨_, rfl, rfl, _, rfl, ite2 (fun _ => ?_) (fun _ => ?_)⟩
    · refine ⟨_, rfl, d, l, rfl, D6, fun H8 zs K8 D8 hz => ?_⟩
      have k8' := TKeep.kp K8 D6
      refine ⟨z2, fun wp nw => ?_⟩
      refine ⟨_, rfl, z2, fun rp nr => ?_⟩
      have kk := (k8'.trans (TKeep.new (o := .tup [kWord, sV zs]) nw)).trans (TKeep.new (o := .tup [.ref wp, .ref cp]) nr)
      refine q _ (.ref rp) (.word zs (.call nm ar .nil)) (((K7.trans K8).new nw).new nr) ((D8.new nw).new nr) ⟨rp, _, rfl, upd_same, ?_⟩ (by simp only [depT]; omega) (by simp only [GoodT]; exact ⟨hz, hn, gA, trivial⟩) (by simp only [toksT, List.length_append, List.length_cons, List.length_nil]; omega)
      simp only [RepT]
      exact ⟨wp, _, rfl, TKeep.new nr _ _ upd_same, cp, c, ws, [], rfl, kk _ _ cp6, kk _ _ c6, A6.keep kk, rfl⟩
    · refine ⟨_, rfl, rfl, _, rfl, ite2 (fun _ => ?_) (fun _ => ?_)⟩
      · refine ⟨_, rfl, _, rfl, d, l, rfl, D6, fun H8 zs K8 D8 hz => ?_⟩
        have k8' := TKeep.kp K8 D6
        refine ⟨z2, fun wp nw => ?_⟩
        refine ⟨z2, fun rp nr => ?_⟩
        have kk := (k8'.trans (TKeep.new (o := .tup [kWord, sV zs]) nw)).trans (TKeep.new (o := .tup [.ref cp, .ref wp]) nr)
        refine q _ (.ref rp) (.call nm ar (.word zs .nil)) (((K7.trans K8).new nw).new nr) ((D8.new nw).new nr) ⟨rp, _, rfl, upd_same, ?_⟩ (by simp only [depT]; omega) (by simp only [GoodT]; exact ⟨hn, gA, hz, trivial⟩) (by simp only [toksT, List.length_append, List.length_cons, List.length_nil]; omega)
        simp only [RepT]
        exact ⟨cp, c, ws, _, rfl, kk _ _ cp6, kk _ _ c6, A6.keep kk, wp, [], rfl, TKeep.new nr _ _ upd_same, rfl⟩
      · refine ⟨_, rfl, z1, fun rp nr => ?_⟩
        have kk := TKeep.new (o := .tup [.ref cp]) nr
        refine q _ (.ref rp) (.call nm ar .nil) (K7.new nr) (D6.new nr) ⟨rp, _, rfl, upd_same, ?_⟩ (by simp only [depT]; omega) (by simp only [GoodT]; exact ⟨hn, gA, trivial⟩) (by simp only [toksT, List.length_append, List.length_cons, List.length_nil]; omega)
        simp only [RepT]
        exact ⟨cp, c, ws, [], rfl, kk _ _ cp6, kk _ _ c6, A6.keep kk, rfl⟩
def spDrawn : Sp := fun vs H Q _ => ∃ (d l : Addr) (most : Nat), vs = [.ref d, .int (most : Int)] ∧ DI d l H ∧ 3 ≤ most ∧ most ≤ 20 ∧
  ∀ H' v t, Kp d H H' → DI d l H' → TV H' v t → depT t ≤ most → GoodT t → (toksT t).length ≤ 4900 → Q v H'
theorem ok_drawn_tree (T : Txt K mg) : FnOk P w K mg base CX0 27 T.a_law_drawn_tree T.d_law_drawn_tree ["_law_d", "_law_most"] spDrawn := by
  have G_law_draw : FnOk P w K mg base CX0 1 T.a_law_draw T.d_law_draw ["_law_d", "_law_many"] spDraw := ok_draw T
  have G_law_rare : FnOk P w K mg base CX0 2 T.a_law_rare T.d_law_rare ["_law_d", "_law_many"] spRare := ok_rare T
  have G_law_tree : FnOk P w K mg base CX0 26 T.a_law_tree T.d_law_tree ["_law_d", "_law_deep", "_law_left"] (spTree 21) := ok_tree T 21
  have G_law_wrapped : FnOk P w K mg base CX0 5 T.a_law_wrapped T.d_law_wrapped ["_law_d", "_law_tree_here"] spWrapped := ok_wrapped T
  refine T.D_law_drawn_tree.F.ok sc_law_drawn_tree (fun vs H Q E h => ?_) (fun cdv A outer s H vs Q E hr h => ?_)
  · obtain ⟨d, l, most, rfl, _⟩ := h
    rfl
  · obtain ⟨d, l, most, rfl, hD, h3, h20, q⟩ := h
    refine ⟨_, (pss_cons (ps_set (i := 2) sc_law_drawn_tree.nd rfl (.inl rfl) pe_int)
      (Evl.pss_cut (ps_if (pt_cmpR op_eq (pe_call G_law_draw (hr.mono (by decide)) (by rfl) T.D_law_draw.G T.D_law_draw.F.kp T.D_law_draw.B .nil pass0 (pa_cons (pv 0) (pa_cons pe_int pa_nil))) pe_int (nomark _)) (pss_one (ps_set (i := 2) sc_law_drawn_tree.nd rfl (.inl rfl) (pe_op op_sub (pv 1) (pe_call G_law_draw (hr.mono (by decide)) (by rfl) T.D_law_draw.G T.D_law_draw.F.kp T.D_law_draw.B .nil pass0 (pa_cons (pv 0) (pa_cons pe_int pa_nil)))))) pss_nil)
      (pss_cons (ps_set (i := 3) sc_law_drawn_tree.nd rfl (.inl rfl) (pe_lst (pa_cons (pe_call G_law_draw (hr.mono (by decide)) (by rfl) T.D_law_draw.G T.D_law_draw.F.kp T.D_law_draw.B .nil pass0 (pa_cons (pv 0) (pa_cons pe_int pa_nil))) pa_nil)))
      (Evl.pss_cut (ps_if (pt_val (pe_call G_law_rare (hr.mono (by decide)) (by rfl) T.D_law_rare.G T.D_law_rare.F.kp T.D_law_rare.B .nil pass0 (pa_cons (pv 0) (pa_cons pe_int pa_nil)))) (pss_one (ps_set (i := 3) sc_law_drawn_tree.nd rfl (.inl rfl) (pe_lst (pa_cons (pe_op op_add pe_int (pe_call G_law_draw (hr.mono (by decide)) (by rfl) T.D_law_draw.G T.D_law_draw.F.kp T.D_law_draw.B .nil pass0 (pa_cons (pv 0) (pa_cons pe_int pa_nil)))) pa_nil)))) pss_nil)
      (pss_cons (ps_set (i := 4) sc_law_drawn_tree.nd rfl (.inl rfl) (pe_call G_law_tree (hr.mono (by decide)) (by rfl) T.D_law_tree.G T.D_law_tree.F.kp T.D_law_tree.B .nil pass0 (pa_cons (pv 0) (pa_cons (pe_op op_sub (pv 1) (pv 2)) (pa_cons (pv 3) pa_nil)))))
      (pss_cons (ps_for PassesOwn.never rfl (pi_range1 (by rfl) T.n_range (pa_cons (pv 2) pa_nil)) (pg_name (i := 5) sc_law_drawn_tree.nd rfl (.inl rfl)) (pss_one (ps_set (i := 4) sc_law_drawn_tree.nd rfl (.inl rfl) (pe_call G_law_wrapped (hr.mono (by decide)) (by rfl) T.D_law_wrapped.G T.D_law_wrapped.F.kp T.D_law_wrapped.B .nil pass0 (pa_cons (pv 0) (pa_cons (pv 4) pa_nil))))))
      (pss_one (ps_ret (pv 4))))))))), ?_⟩
    refine ⟨fun σ' H' => ∃ ar : Nat, ar ≤ most ∧ σ' = [some (.ref d), some (.int (most : Int)), some (.int (ar : Int)), none, none, none] ∧ Kp d H H' ∧ DI d l H', ?_, ?_⟩
    · refine ⟨_, rfl, d, l, _, rfl, hD, by decide, fun H1 r K1 D1 _ _ => ?_⟩
      refine ⟨rfl, _, rfl, ite2 (fun _ => ?_) (fun _ => ?_)⟩
      · refine ⟨_, rfl, _, rfl, d, l, _, rfl, D1, by decide, fun H2 r' K2 D2 _ e2 => ?_⟩
        have e3 := e2 (by decide)
        refine ⟨_, _, rfl, rfl, (most - r'.toNat), by omega, ?_, K1.trans K2, D2⟩
        show [some (V.ref d), some (V.int (most : Int)), some (V.int ((most : Int) - r')), none, none, none] = _
        rw [show ((most : Int) - r') = ((most - r'.toNat : Nat) : Int) from by omega]
      · exact ⟨0, Nat.zero_le _, rfl, K1, D1⟩
    · rintro σ' H1 ⟨ar, har, rfl, K1, D1⟩
      refine ⟨_, rfl, d, l, _, rfl, D1, by decide, fun H2 r2 K2 D2 _ e2 => ?_⟩
      have e3 := e2 (by decide)
      refine ⟨by show 1 ≤ sizeLine; decide, fun L nL => ?_⟩
      refine ⟨fun σ' H' => ∃ (L : Addr) (m : Nat), m ≤ 80 ∧ σ' = [some (.ref d), some (.int (most : Int)), some (.int (ar : Int)), some (.ref L), none, none] ∧ Kp d H H' ∧ DI d l H' ∧ H' L = some (.lst [.int (m : Int)]) ∧ H L = none, ?_, ?_⟩
      · have K3 : Kp d H (upd H2 L (.lst [.int r2])) := (K1.trans K2).new nL
        have free : ∀ (H' : Hp) (a : Addr), Kp d H H' → DI d l H' → H' a = none → H a = none := fun H' a k D n => by
          cases e : H a with
          | none => rfl
          | some o => rw [k a o (D.nd n).1 e] at n; cases n
        refine ⟨_, rfl, d, l, _, rfl, D2.new nL, by decide, fun H4 b K4 D4 => ⟨b, rfl, ?_⟩⟩
        have L4 : H4 L = some (.lst [.int r2]) := K4 _ _ (D2.nd nL).1 upd_same
        cases b with
        | true =>
          refine ⟨_, rfl, d, l, _, rfl, D4, by decide, fun H5 r5 K5 D5 _ e5 => ?_⟩
          have e6 := e5 (by decide)
          refine ⟨_, _, rfl, rfl, by show 1 ≤ sizeLine; decide, fun L' nL' => ?_⟩
          refine ⟨L', (40 + r5).toNat, by omega, rfl, ((K3.trans K4).trans K5).new nL', D5.new nL', ?_, free H5 L' ((K3.trans K4).trans K5) D5 nL'⟩
          show upd H5 L' (.lst [.int (40 + r5)]) L' = _
          rw [upd_same, show (((40 + r5).toNat : Nat) : Int) = 40 + r5 from by omega]
        | false =>
          refine ⟨L, r2.toNat, by omega, rfl, K3.trans K4, D4, ?_, free H2 L (K1.trans K2) D2 nL⟩
          rw [L4, show ((r2.toNat : Nat) : Int) = r2 from by omega]
      · rintro σ' H3 ⟨L, m, hm, rfl, K3, D3, hL, nLH⟩
        have nld := hD.nd nLH
        refine ⟨_, rfl, _, rfl, _, rfl, _, _, rfl, rfl, _, rfl, d, l, L, most - ar, m, ?_, D3, nld.1, nld.2, hL, by omega, by omega, fun H4 p us t m' K4 D4 L4 hm' hp hR dt gt bt => ?_⟩
        · show [V.ref d, V.int ((most : Int) - (ar : Int)), V.ref L] = _
          rw [show ((most : Int) - (ar : Int)) = ((most - ar : Nat) : Int) from by omega]
        have K5 : Kp d H H4 := fun b o n e => K4 b o n (fun z => by rw [z, nLH] at e; cases e) (K3 b o n e)
        refine ⟨_, rfl, (ar : Int), rfl, by omega, by omega, ?_⟩
        refine for_range (lo := 0) (n := ((ar : Int)).toNat) (fun i σ' H' => ∃ (v : V) (t : Tr) (x5 : Option V), σ' = [some (.ref d), some (.int (most : Int)), some (.int (ar : Int)), some (.ref L), some v, x5] ∧ Kp d H H' ∧ DI d l H' ∧ TV H' v t ∧ depT t ≤ most - ar + i ∧ GoodT t ∧ (toksT t).length ≤ 4000 + 8 * i)
          ⟨.ref p, t, none, rfl, K5, D4, ⟨p, us, rfl, hp, hR⟩, dt, gt, ?_⟩ ?_ ?_
        · have : 49 * (m - m') ≤ 49 * 80 := Nat.mul_le_mul_left _ (by omega)
          omega
        · rintro i σ' H5 hi ⟨v, t, x5, rfl, K6, D6, hv, dt, gt, bt⟩
          refine ⟨_, rfl, _, rfl, d, l, v, t, rfl, D6, hv, gt, fun H7 v' t' K7 D7 hv' dt' gt' bt' => ?_⟩
          exact ⟨v', t', _, rfl, K6.trans K7, D7, hv', by omega, gt', by omega⟩
        · rintro σ' H5 ⟨v, t, x5, rfl, K6, D6, hv, dt, gt, bt⟩
          exact ⟨_, rfl, q H5 v t K6 D6 hv (by omega) gt (by omega)⟩
end
end Vf

set_option Elab.async false
set_option linter.all false
set_option maxRecDepth 100000
set_option maxHeartbeats 4000000
namespace Vf
open PySem PySem.Spec PyProof.Rows L2 TL
theorem lets_ok : RName (("lets" : Str)).cps.toList := by
  refine ⟨by decide +kernel, by decide +kernel, fun c hc => List.all_eq_true.mp (by decide +kernel : (("lets" : Str)).cps.toList.all cL = true) c hc⟩
section
variable {P : Program} {w : World} {K : PySem.W.Frag} {mg : Str → Option Value} {base : Heap}
def spNothing : Sp := fun vs H Q _ => ∃ (v : V) (t : Tr), vs = [v] ∧ TV H v t ∧ GoodT t ∧ (toksT t).length ≤ 50000 ∧
  ∀ H' v' t', Same H H' → TV H' v' t' → depT t' ≤ depT t → GoodT t' → (toksT t').length ≤ (toksT t).length → Q v' H'
theorem ok_nothing (T : Txt K mg) : FnOk P w K mg base CX0 1 T.a_law_nothing_defined T.d_law_nothing_defined ["_law_tree_here"] spNothing := by
  refine T.D_law_nothing_defined.F.ok sc_law_nothing_defined (fun vs H Q E h => ?_) (fun cdv A outer s H vs Q E hr h => ?_)
  · obtain ⟨v, t, rfl, _⟩ := h
    rfl
  · obtain ⟨v, t, rfl, ⟨tp, us, rfl, hp, hR⟩, hg, hl, q⟩ := h
    refine ⟨_, (pss_one (ps_ret (pe_callTy call_tuple_of (by rfl) T.n_tuple (by decide +kernel) (pa_cons (pe_lc (own := [("_law_node", 1)]) (g := gName 1) (tt := tYes) rfl sc_law_nothing_defined.nd (pi_tup (pv 0)) (blkOk_by (own := [("_law_node", 1)]) (N := ["_law_tree_here", "_law_node"]) (sc := defScope s_law_nothing_defined) (by decide +kernel)) (fun _ _ _ _ _ => (pg_name (i := 1) sc_law_nothing_defined.nd rfl (.inl rfl))) (fun _ _ _ _ _ => pts_nil) (fun _ _ _ _ _ => (pe_ifExp (PW.pt (pw_and (pt_cmpR op_eq (pe_ix (r := rIxT K) ix_tup (pv 1) pe_int (fun _ _ => rfl)) pe_str (nomark _)) (pw_and1 (pt_cmpR op_eq (pe_ix (r := rIxT K) ix_tup (pv 1) pe_int (fun _ _ => rfl)) pe_str (nomark _))))) (pe_tup (pa_cons pe_str (pa_cons pe_str (pa_cons (pe_ix (r := rIxT K) ix_tup (pv 1) pe_int (fun _ _ => rfl)) pa_nil)))) (pv 1)))) pa_nil)))), ?_⟩
    refine ⟨_, rfl, tp, rfl, ⟨_, SqT.of hp⟩, fun D nD => ?_⟩
    have S0 : Same H (upd H D (.lst [])) := same_upd (Same.refl H) nD
    refine lc_tup (K := K) (a := tp) (xs := us) (fun i H' => ∃ (u r : Tr) (vs : List V), H' D = some (.lst vs) ∧ RepT H' u vs ∧ RepT H r (us.drop i) ∧ Same H H' ∧ depT u ≤ depT t ∧ depT r ≤ depT t ∧ GoodT u ∧ GoodT r ∧ (toksT u).length + (toksT r).length ≤ (toksT t).length)
      ⟨.nil, t, [], upd_same, by simp only [RepT], hR, S0, by simp only [depT]; exact Nat.zero_le _, Nat.le_refl _, by simp only [GoodT], hg, by simp only [toksT, List.length_nil]; omega⟩ ?_ ?_ ?_
    · rintro i H' _ ⟨_, _, _, _, _, _, k, _⟩
      exact SqT.of (k _ _ hp)
    · rintro i x H' hx ⟨u, r, vs, e1, hu, hr1, k1, du, dr, gu, gr, bd⟩
      rw [drop_x hx] at hr1
      have tk : TKeep H H' := TKeep.same k1
      have vl := hu.len
      -- the list with one more
      have more : ∀ (H2 : Hp) (v : V) (n r2 : Tr), Same H' H2 → RepT H2 n [v] → RepT H r2 (us.drop (i + 1)) → depT n ≤ depT t → depT r2 ≤ depT t → GoodT n → GoodT r2 → (toksT u).length + (toksT n).length + (toksT r2).length ≤ (toksT t).length →
          ∃ acc, H2 D = some (.lst acc) ∧ acc.length < sizeLine ∧ ∃ (u r : Tr) (vs : List V), upd H2 D (.lst (acc ++ [v])) D = some (.lst vs) ∧ RepT (upd H2 D (.lst (acc ++ [v]))) u vs ∧ RepT H r (us.drop (i + 1)) ∧ Same H (upd H2 D (.lst (acc ++ [v]))) ∧ depT u ≤ depT t ∧ depT r ≤ depT t ∧ GoodT u ∧ GoodT r ∧ (toksT u).length + (toksT r).length ≤ (toksT t).length := by
        intro H2 v n r2 s2 hn hr2 dn d2 gn g2 b2
        have e2 := s2 _ _ e1
        refine ⟨vs, e2, lt_size (by omega), appT u n, r2, _, upd_same, RepT.keep (TKeep.mut e2) ((hu.keep (TKeep.same s2)).app hn), hr2, same_mut (k1.trans s2) nD, ?_, d2, GoodT_app gu gn, g2, ?_⟩
        · rw [depT_app]; omega
        · rw [toksT_app, List.length_append]; omega
      cases r with
      | nil => simp only [RepT] at hr1; cases hr1
      | word z r =>
        simp only [RepT, toksT, depT, GoodT] at hr1 dr gr bd
        obtain ⟨y, vs', e3, hy, hr2⟩ := hr1
        injection e3 with e4 e5
        subst e4 e5
        have hy' := tk _ _ hy
        have ne : V.bl (decide (kWord = V.str ("call" : Str))) = V.bl false := by decide +kernel
        refine ⟨rfl, ?_⟩
        refine ⟨_, rfl, _, _, _, _, rfl, rfl, SqT.of hy', rfl, rfl, false, ne, _, rfl, ?_⟩
        refine more H' (.ref y) (.word z .nil) r (Same.refl H') (by simp only [RepT]; exact ⟨y, [], rfl, hy', rfl⟩) hr2 (by simp only [depT]; exact Nat.zero_le _) dr (by simp only [GoodT]; exact ⟨gr.1, trivial⟩) gr.2 ?_
        simp only [toksT, List.length_cons, List.length_nil] at bd ⊢
        omega
      | call nm a r =>
        simp only [RepT, toksT, depT, GoodT] at hr1 dr gr bd
        obtain ⟨y, y2, ws, vs', e3, hy, hy2, hA, hr2⟩ := hr1
        injection e3 with e4 e5
        subst e4 e5
        have hy' := tk _ _ hy
        have eq : V.bl (decide (kCall = V.str ("call" : Str))) = V.bl true := by decide +kernel
        refine ⟨rfl, ?_⟩
        refine ⟨_, rfl, _, _, _, _, rfl, rfl, SqT.of hy', rfl, rfl, true, eq, ?_⟩
        refine ⟨_, rfl, _, _, _, _, rfl, rfl, SqT.of hy', rfl, rfl, _, rfl, ite2 (fun _ => ?_) (fun _ => ?_)⟩
        · refine ⟨_, rfl, _, _, _, _, rfl, rfl, SqT.of hy', rfl, by show 3 ≤ sizeLine; decide, fun p np => ?_⟩
          have k2 := TKeep.new (o := .tup [kCall, sV (("lets" : Str)).cps.toList, .ref y2]) np
          refine more _ (.ref p) (.call (("lets" : Str)).cps.toList a .nil) r (same_upd (Same.refl H') np) ?_ hr2 (by simp only [depT]; omega) (by omega) (by simp only [GoodT]; exact ⟨lets_ok, gr.2.1, trivial⟩) gr.2.2 ?_
          · simp only [RepT]
            exact ⟨p, y2, ws, [], rfl, upd_same, k2 _ _ (tk _ _ hy2), hA.keep (tk.trans k2), rfl⟩
          · simp only [toksT, List.length_append, List.length_cons, List.length_nil] at bd ⊢
            omega
        · refine ⟨_, rfl, ?_⟩
          refine more H' (.ref y) (.call nm a .nil) r (Same.refl H') ?_ hr2 (by simp only [depT]; omega) (by omega) (by simp only [GoodT]; exact ⟨gr.1, gr.2.1, trivial⟩) gr.2.2 ?_
          · simp only [RepT]
            exact ⟨y, y2, ws, [], rfl, hy', tk _ _ hy2, hA.keep tk, rfl⟩
          · simp only [toksT, List.length_append, List.length_cons, List.length_nil] at bd ⊢
            omega
    · rintro H' ⟨u, r, vs, e1, hu, hr1, k1, du, dr, gu, gr, bd⟩
      refine ⟨D, vs, rfl, .inl ⟨SqL.of e1, fun c nc => ?_⟩⟩
      exact q _ (.ref c) u (same_upd k1 nc) ⟨c, vs, rfl, upd_same, hu.keep (TKeep.new nc)⟩ du gu (by omega)
end
end Vf

set_option Elab.async false
set_option linter.all false
set_option maxRecDepth 100000
set_option maxHeartbeats 4000000
namespace Vf
open PySem PySem.Spec PyProof.Rows L2 TL
/-! ### tokens that a tree has, from left to right -/
/-- a brace can follow -/
def free (ts : List (List Nat)) : Bool := match ts.getLast? with
  | none => false
  | some t => decide (t = [125]) || decide (t.head? = some 64)
theorem free_snoc (ts : List (List Nat)) (t : List Nat) : free (ts ++ [t]) = (decide (t = [125]) || decide (t.head? = some 64)) := by
  unfold free
  rw [List.getLast?_concat]
inductive Wk (most : Nat) : List (List Nat) → Nat → Prop
  | nil : Wk most [] 0
  | opn {ts dp} : Wk most ts dp → free ts = true → dp < most → Wk most (ts ++ [[123]]) (dp + 1)
  | cls {ts dp} : Wk most ts (dp + 1) → Wk most (ts ++ [[125]]) dp
  | call {ts dp n} : Wk most ts dp → RName n → Wk most (ts ++ [64 :: n]) dp
  | word {ts dp z} : Wk most ts dp → RWord z → Wk most (ts ++ [z]) dp
theorem snoc_inj {a b : List (List Nat)} {x y : List Nat} (h : a ++ [x] = b ++ [y]) : a = b ∧ x = y := by
  have ⟨h1, h2⟩ := List.append_inj' h rfl
  exact ⟨h1, by injection h2⟩
theorem Wk.inv {most : Nat} {us : List (List Nat)} {dp : Nat} (h : Wk most us dp) : ∀ {ts : List (List Nat)} {x : List Nat}, us = ts ++ [x] →
    (x = [123] ∧ free ts = true ∧ ∃ d, dp = d + 1 ∧ d < most ∧ Wk most ts d) ∨ (x = [125] ∧ Wk most ts (dp + 1)) ∨ (∃ n, x = 64 :: n ∧ RName n ∧ Wk most ts dp) ∨ (RWord x ∧ Wk most ts dp) := by
  intro ts x e
  cases h with
  | nil => exact absurd e (by intro z; exact absurd (congrArg List.length z) (by simp))
  | opn a b c =>
    obtain ⟨rfl, rfl⟩ := snoc_inj e
    exact .inl ⟨rfl, b, _, rfl, c, a⟩
  | cls a =>
    obtain ⟨rfl, rfl⟩ := snoc_inj e
    exact .inr (.inl ⟨rfl, a⟩)
  | call a b =>
    obtain ⟨rfl, rfl⟩ := snoc_inj e
    exact .inr (.inr (.inl ⟨_, rfl, b, a⟩))
  | word a b =>
    obtain ⟨rfl, rfl⟩ := snoc_inj e
    exact .inr (.inr (.inr ⟨b, a⟩))
theorem Wk.pre {most : Nat} : ∀ (us ts : List (List Nat)) (dp : Nat), Wk most (ts ++ us) dp → ∃ d, Wk most ts d
  | [], ts, dp, h => by rw [List.append_nil] at h; exact ⟨dp, h⟩
  | u :: us, ts, dp, h => by
    have h2 : Wk most ((ts ++ [u]) ++ us) dp := by rw [List.append_assoc]; exact h
    obtain ⟨d, h3⟩ := Wk.pre us (ts ++ [u]) dp h2
    rcases h3.inv rfl with ⟨_, _, d2, _, _, h4⟩ | ⟨_, h4⟩ | ⟨_, _, _, h4⟩ | ⟨_, h4⟩ <;> exact ⟨_, h4⟩
theorem Wk.closed {most : Nat} : ∀ (dp : Nat) (ts : List (List Nat)), Wk most ts dp → Wk most (ts ++ List.replicate dp [125]) 0
  | 0, ts, h => by rw [List.replicate_zero, List.append_nil]; exact h
  | d + 1, ts, h => by
    have h2 := Wk.closed d (ts ++ [[125]]) (.cls h)
    rw [List.append_assoc] at h2
    exact h2
theorem Wk.dep_le {most : Nat} {ts : List (List Nat)} {dp : Nat} (h : Wk most ts dp) : dp ≤ most := by
  induction h with
  | nil => exact Nat.zero_le _
  | opn _ _ c _ => exact c
  | cls _ ih => omega
  | call _ _ ih => exact ih
  | word _ _ ih => exact ih
theorem Wk.tok_len {most : Nat} {ts : List (List Nat)} {dp : Nat} (h : Wk most ts dp) : ∀ z ∈ ts, z.length ≤ 17 ∧ z ≠ [] := by
  induction h with
  | nil => exact fun _ h => nomatch h
  | opn _ _ _ ih =>
    intro z hz
    rcases List.mem_append.mp hz with h | h
    · exact ih z h
    · rw [List.mem_singleton.mp h]; exact ⟨by show 1 ≤ 17; decide, by simp⟩
  | cls _ ih =>
    intro z hz
    rcases List.mem_append.mp hz with h | h
    · exact ih z h
    · rw [List.mem_singleton.mp h]; exact ⟨by show 1 ≤ 17; decide, by simp⟩
  | call _ b ih =>
    intro z hz
    rcases List.mem_append.mp hz with h | h
    · exact ih z h
    · rw [List.mem_singleton.mp h]
      have := b.len
      exact ⟨by rw [List.length_cons]; omega, by simp⟩
  | word _ b ih =>
    intro z hz
    rcases List.mem_append.mp hz with h | h
    · exact ih z h
    · rw [List.mem_singleton.mp h]
      have := b.len
      exact ⟨by omega, b.1⟩
/-- a word begins with no sign of its own kind -/
theorem RWord.head {z : List Nat} (h : RWord z) : z.head? ≠ some 64 ∧ z ≠ [123] ∧ z ≠ [125] := by
  refine ⟨fun e => ?_, fun e => ?_, fun e => ?_⟩
  · cases z with
    | nil => cases e
    | cons c r =>
      have e2 : c = 64 := Option.some.inj e
      exact cW_ne (h.2.2 c List.mem_cons_self) e2
  · have h1 := h.2.2 123 (by rw [e]; exact List.mem_cons_self)
    unfold cW at h1
    rw [sW_list] at h1
    exact absurd h1 (by decide)
  · have h1 := h.2.2 125 (by rw [e]; exact List.mem_cons_self)
    unfold cW at h1
    rw [sW_list] at h1
    exact absurd h1 (by decide)
/-- a value of a text compared with a written one -/
theorem dec_txt {z : List Nat} {y : Str} {e : List Nat} (hy : y = mkS e) : decide (sV z = V.str y) = decide (z = e) := by
  rw [hy]
  by_cases h : z = e
  · subst h; rw [decide_eq_true rfl]; exact decide_eq_true rfl
  · rw [decide_eq_false h]
    exact decide_eq_false fun q => h (mkS_inj (V.str.inj q))
theorem dec_head {z : List Nat} (hz : z ≠ []) : decide (V.str ⟨#[z.headD 0]⟩ = V.str ("@" : Str)) = decide (z.head? = some 64) := by
  cases z with
  | nil => exact absurd rfl hz
  | cons c r =>
    show decide (V.str ⟨#[c]⟩ = V.str ("@" : Str)) = decide (some c = some 64)
    rw [dec_sign c _ 64 at_mk]
    by_cases h : c = 64
    · subst h; rfl
    · rw [decide_eq_false h]
      exact (decide_eq_false fun e => h (Option.some.inj e)).symm
theorem head0_at {t : List Nat} (h : t ≠ []) : atI t 0 = some (t.headD 0) := by
  cases t with
  | nil => exact absurd rfl h
  | cons c r => exact atI_nat (j := 0) rfl
theorem at_end {α : Type} {ts : List α} {t : α} (h : ts.getLast? = some t) : atI ts (-1) = some t := by
  have ⟨h1, h2⟩ := List.getLast?_eq_some_iff.mp h
  rw [h2]
  exact atI_last _ _
section
variable {P : Program} {w : World} {K : PySem.W.Frag} {mg : Str → Option Value} {base : Heap}
def spWalkT : Sp := fun vs H Q _ => ∃ (d l : Addr) (many : Int) (most : Nat), vs = [.ref d, .int many, .int (most : Int)] ∧ DI d l H ∧ 0 ≤ many ∧ many ≤ 200 ∧ 3 ≤ most ∧ most ≤ 30 ∧
  ∀ H' p ts, Kp d H H' → DI d l H' → H p = none → H' p = some (.lst (ts.map sV)) → Wk most ts 0 → ts.length ≤ 1000 → Q (.ref p) H'
theorem flat_rep (n : Nat) : (List.replicate n [V.str ("}" : Str)]).flatten = (List.replicate n [125]).map sV := by
  induction n with
  | zero => rfl
  | succ n ih =>
    rw [List.replicate_succ, List.replicate_succ, List.flatten_cons, ih, List.map_cons, ← brC_sV]
    rfl
theorem ok_token_walk (T : Txt K mg) : FnOk P w K mg base CX0 5 T.a_law_token_walk T.d_law_token_walk ["_law_d", "_law_many", "_law_most"] spWalkT := by
  have G_law_draw : FnOk P w K mg base CX0 1 T.a_law_draw T.d_law_draw ["_law_d", "_law_many"] spDraw := ok_draw T
  have G_law_pick : FnOk P w K mg base CX0 2 T.a_law_pick T.d_law_pick ["_law_d", "_law_row"] (spPick K) := ok_pick T
  have G_law_some_word : FnOk P w K mg base CX0 4 T.a_law_some_word T.d_law_some_word ["_law_d"] (spStr RWord) := ok_some_word T
  have G_law_some_name : FnOk P w K mg base CX0 4 T.a_law_some_name T.d_law_some_name ["_law_d"] (spStr RName) := ok_some_name T
  refine T.D_law_token_walk.F.ok sc_law_token_walk (fun vs H Q E h => ?_) (fun cdv A outer s H vs Q E hr h => ?_)
  · obtain ⟨d, l, many, most, rfl, _⟩ := h
    rfl
  · obtain ⟨d, l, many, most, rfl, hD, m0, m1, h3, h30, q⟩ := h
    refine ⟨_, (pss_cons (ps_set (i := 3) sc_law_token_walk.nd rfl (.inl rfl) (pe_lst pa_nil))
      (Evl.pss_cut (ps_if (pt_cmpR op_eq (pe_call G_law_draw (hr.mono (by decide)) (by rfl) T.D_law_draw.G T.D_law_draw.F.kp T.D_law_draw.B .nil pass0 (pa_cons (pv 0) (pa_cons pe_int pa_nil))) pe_int (nomark _)) (pss_one (ps_for PassesOwn.never rfl (pi_range1 (by rfl) T.n_range (pa_cons (pe_op op_sub (pv 2) (pe_call G_law_draw (hr.mono (by decide)) (by rfl) T.D_law_draw.G T.D_law_draw.F.kp T.D_law_draw.B .nil pass0 (pa_cons (pv 0) (pa_cons pe_int pa_nil)))) pa_nil)) (pg_name (i := 4) sc_law_token_walk.nd rfl (.inl rfl)) (pss_cons (ps_expr (pe_bm PySem.F.plainAttrs_list PySem.F.slot_list_append PySem.F.type_list_append mt_append (pv 3) (pa_cons (pe_op op_add_str pe_str (pe_call G_law_some_name (hr.mono (by decide)) (by rfl) T.D_law_some_name.G T.D_law_some_name.F.kp T.D_law_some_name.B .nil pass0 (pa_cons (pv 0) pa_nil))) pa_nil)))
      (pss_one (ps_expr (pe_bm PySem.F.plainAttrs_list PySem.F.slot_list_append PySem.F.type_list_append mt_append (pv 3) (pa_cons pe_str pa_nil))))))) pss_nil)
      (Evl.pss_cut (ps_set (i := 5) sc_law_token_walk.nd rfl (.inl rfl) (pe_op op_fdivN (pe_callB call_len_seq (by rfl) T.n_len PySem.boot_len (pa_cons (pv 3) pa_nil)) pe_int))
      (pss_cons (ps_set (i := 6) sc_law_token_walk.nd rfl (.inl rfl) (pe_call G_law_pick (hr.mono (by decide)) (by rfl) T.D_law_pick.G T.D_law_pick.F.kp T.D_law_pick.B .nil pass0 (pa_cons (pv 0) (pa_cons (pe_lst (pa_cons pe_str (pa_cons pe_str (pa_cons pe_str (pa_cons pe_str pa_nil))))) pa_nil))))
      (pss_cons (ps_for PassesOwn.never rfl (pi_range1 (by rfl) T.n_range (pa_cons (pv 1) pa_nil)) (pg_name (i := 4) sc_law_token_walk.nd rfl (.inl rfl)) (pss_cons (ps_set (i := 7) sc_law_token_walk.nd rfl (.inl rfl) (pe_call G_law_pick (hr.mono (by decide)) (by rfl) T.D_law_pick.G T.D_law_pick.F.kp T.D_law_pick.B .nil pass0 (pa_cons (pv 0) (pa_cons (pv 6) pa_nil))))
      (Evl.pss_cut (ps_set (i := 8) sc_law_token_walk.nd rfl (.inl rfl) (pe_and (pe_cmpR op_gt (pe_callB call_len_seq (by rfl) T.n_len PySem.boot_len (pa_cons (pv 3) pa_nil)) pe_int (nomark _)) (pe_one (pe_or (pe_cmpR op_eq (pe_ix ix_list (pv 3) (pe_un un_neg pe_int) (fun _ _ => rfl)) pe_str (nomark _)) (pe_one (pe_cmpR op_eq (pe_ix ix_str (pe_ix ix_list (pv 3) (pe_un un_neg pe_int) (fun _ _ => rfl)) pe_int (fun _ _ => rfl)) pe_str (nomark _)))))))
      (pss_one (ps_if (PW.pt (pw_and (pt_cmpR op_eq (pv 7) pe_str (nomark _)) (pw_and (pt_val (pv 8)) (pw_and1 (pt_cmpR op_lt (pv 5) (pv 2) (nomark _)))))) (pss_cons (ps_expr (pe_bm PySem.F.plainAttrs_list PySem.F.slot_list_append PySem.F.type_list_append mt_append (pv 3) (pa_cons pe_str pa_nil)))
      (pss_one (ps_set (i := 5) sc_law_token_walk.nd rfl (.inl rfl) (pe_op op_add (pv 5) pe_int)))) (pss_one (ps_if (PW.pt (pw_and (pt_cmpR op_eq (pv 7) pe_str (nomark _)) (pw_and (pt_val (pv 8)) (pw_and1 (pt_cmpR op_lt (pv 5) (pv 2) (nomark _)))))) (pss_cons (ps_expr (pe_bm PySem.F.plainAttrs_list PySem.F.slot_list_append PySem.F.type_list_append mt_append (pv 3) (pa_cons pe_str pa_nil)))
      (pss_one (ps_expr (pe_bm PySem.F.plainAttrs_list PySem.F.slot_list_append PySem.F.type_list_append mt_append (pv 3) (pa_cons pe_str pa_nil))))) (pss_one (ps_if (PW.pt (pw_and (pt_cmpR op_eq (pv 7) pe_str (nomark _)) (pw_and1 (pt_cmpR op_gt (pv 5) pe_int (nomark _))))) (pss_cons (ps_expr (pe_bm PySem.F.plainAttrs_list PySem.F.slot_list_append PySem.F.type_list_append mt_append (pv 3) (pa_cons pe_str pa_nil)))
      (pss_one (ps_set (i := 5) sc_law_token_walk.nd rfl (.inl rfl) (pe_op op_sub (pv 5) pe_int)))) (pss_one (ps_if (PW.pt (pw_or (pt_cmpR op_eq (pv 7) pe_str (nomark _)) (pw_or1 (pt_cmpR op_eq (pv 7) pe_str (nomark _))))) (pss_one (ps_expr (pe_bm PySem.F.plainAttrs_list PySem.F.slot_list_append PySem.F.type_list_append mt_append (pv 3) (pa_cons (pe_call G_law_some_word (hr.mono (by decide)) (by rfl) T.D_law_some_word.G T.D_law_some_word.F.kp T.D_law_some_word.B .nil pass0 (pa_cons (pv 0) pa_nil)) pa_nil)))) (pss_one (ps_expr (pe_bm PySem.F.plainAttrs_list PySem.F.slot_list_append PySem.F.type_list_append mt_append (pv 3) (pa_cons (pe_op op_add_str pe_str (pe_call G_law_some_name (hr.mono (by decide)) (by rfl) T.D_law_some_name.G T.D_law_some_name.F.kp T.D_law_some_name.B .nil pass0 (pa_cons (pv 0) pa_nil))) pa_nil)))))))))))))))
      (pss_one (ps_ret (pe_op op_cat (pv 3) (pe_op op_rep (pe_lst (pa_cons pe_str pa_nil)) (pv 5)))))))))), ?_⟩
    refine ⟨by show 0 ≤ sizeLine; decide, fun N nN => ?_⟩
    have nd := hD.nd nN
    -- one more token
    have put : ∀ (H1 : Hp) (ts : List (List Nat)) (z : List Nat), Kp d H H1 → DI d l H1 → H1 N = some (.lst (ts.map sV)) → Kp d H (upd H1 N (.lst (ts.map sV ++ [sV z]))) ∧ DI d l (upd H1 N (.lst (ts.map sV ++ [sV z]))) ∧ upd H1 N (.lst (ts.map sV ++ [sV z])) N = some (.lst ((ts ++ [z]).map sV)) :=
      fun H1 ts z k D e => ⟨k.mut nN, D.at nd.1 nd.2, by rw [upd_same, List.map_append]; rfl⟩
    have K0 : Kp d H (upd H N (.lst [])) := (Kp.refl d H).new nN
    have sz : ∀ (ts : List (List Nat)), ts.length ≤ 900 → (ts.map sV).length < sizeLine := fun ts h => by
      rw [List.length_map]; exact Nat.lt_of_le_of_lt h (by decide)
    refine ⟨fun σ' H' => ∃ (j : Nat) (ts : List (List Nat)) (x4 : Option V), σ' = [some (.ref d), some (.int many), some (.int (most : Int)), some (.ref N), x4, none, none, none, none] ∧ Kp d H H' ∧ DI d l H' ∧ H' N = some (.lst (ts.map sV)) ∧ ts.length = 2 * j ∧ Wk most ts j, ?_, ?_⟩
    · refine ⟨_, rfl, d, l, _, rfl, hD.new nN, by decide, fun H1 r K1 D1 _ _ => ?_⟩
      have N1 : H1 N = some (.lst []) := K1 _ _ nd.1 upd_same
      refine ⟨rfl, _, rfl, ite2 (fun _ => ?_) (fun _ => ?_)⟩
      · refine ⟨_, rfl, _, rfl, d, l, _, rfl, D1, by decide, fun H2 r' K2 D2 _ e2 => ?_⟩
        have e3 := e2 (by decide)
        refine ⟨_, _, rfl, rfl, _, rfl, by omega, by omega, ?_⟩
        refine for_range (lo := 0) (n := ((most : Int) - r').toNat) (fun i σ' H' => ∃ (ts : List (List Nat)) (x4 : Option V), σ' = [some (.ref d), some (.int many), some (.int (most : Int)), some (.ref N), x4, none, none, none, none] ∧ Kp d H H' ∧ DI d l H' ∧ H' N = some (.lst (ts.map sV)) ∧ ts.length = 2 * i ∧ Wk most ts i)
          ⟨[], none, rfl, (K0.trans K1).trans K2, D2, K2 _ _ nd.1 N1, rfl, .nil⟩ ?_ ?_
        · rintro i σ' H3 hi ⟨ts, x4, rfl, K3, D3, e4, tl, hw⟩
          refine ⟨.ref N, rfl, .inl ⟨rfl, _, .inl (.inl e4)⟩, _, rfl, d, l, rfl, D3, fun H4 nm K4 D4 hn => ?_⟩
          have nl := hn.len
          have e5 := K4 _ _ nd.1 e4
          refine ⟨_, _, rfl, rfl, ?_, ?_⟩
          · rw [at_len, mkS_len]; exact Nat.le_trans (show 1 + nm.length ≤ 100 by omega) (by decide)
          rw [at_app]
          refine ⟨N, _, _, rfl, rfl, e5, sz ts (by omega), ?_⟩
          obtain ⟨k6, D6, e6⟩ := put H4 ts (64 :: nm) (K3.trans K4) D4 e5
          refine ⟨.ref N, rfl, .inl ⟨rfl, _, .inl (.inl e6)⟩, N, _, _, rfl, rfl, e6, sz _ (by simp only [List.length_append, List.length_cons, List.length_nil]; omega), ?_⟩
          obtain ⟨k7, D7, e7⟩ := put _ _ [123] k6 D6 e6
          rw [brO_sV]
          refine ⟨_, _, rfl, k7, D7, e7, ?_, .opn (.call hw hn) ?_ (by omega)⟩
          · simp only [List.length_append, List.length_cons, List.length_nil]; omega
          · rw [free_snoc]; exact Bool.or_eq_true_iff.mpr (.inr (decide_eq_true rfl))
        · rintro σ' H3 ⟨ts, x4, rfl, K3, D3, e4, tl, hw⟩
          exact ⟨_, ts, x4, rfl, K3, D3, e4, tl, hw⟩
      · exact ⟨0, [], none, rfl, K0.trans K1, D1, N1, rfl, .nil⟩
    · rintro σ' H1 ⟨j, ts, x4, rfl, K1, D1, e1, tl, hw⟩
      have jm := hw.dep_le
      have ed : (((ts.map sV).length : Nat) : Int).fdiv 2 = (j : Int) := by
        rw [List.length_map, tl, Int.fdiv_eq_ediv_of_nonneg _ (by decide)]
        omega
      refine ⟨fun σ' H' => σ' = [some (.ref d), some (.int many), some (.int (most : Int)), some (.ref N), x4, some (.int (j : Int)), none, none, none] ∧ H' = H1, ⟨_, rfl, N, _, rfl, .inl (SqL.of e1), _, _, rfl, rfl, ⟨by decide, by decide⟩, ?_, rfl⟩, ?_⟩
      · show [some (V.ref d), some (.int many), some (.int (most : Int)), some (.ref N), x4, some (V.int ((((ts.map sV).length : Nat) : Int).fdiv 2)), none, none, none] = _
        rw [ed]
      rintro σ' H1' ⟨rfl, rfl⟩
      refine ⟨_, rfl, by show 4 ≤ sizeLine; decide, fun p np => ?_⟩
      refine ⟨d, l, _, _, rfl, D1.new np, .inl ⟨p, rfl, (D1.nd np).1, SqL.of upd_same⟩, by show 0 < 4; decide, by show 4 ≤ 1000; decide, fun H2 v K2 D2 hv => ?_⟩
      have hz : ∃ z : Str, v = .str z ∧ (0 < z.cps.toList.length ∧ z.cps.toList.length ≤ 1000) := by
        simp only [List.mem_cons, List.not_mem_nil, or_false] at hv
        rcases hv with rfl | rfl | rfl | rfl <;> exact ⟨_, rfl, by decide +kernel⟩
      obtain ⟨menu, rfl, hz0, hz1⟩ := hz
      have e2 : H2 N = some (.lst (ts.map sV)) := K2 _ _ nd.1 (by rw [upd_ne (ne_of_none e1 np)]; exact e1)
      refine ⟨_, rfl, many, rfl, by omega, by omega, ?_⟩
      refine for_range (lo := 0) (n := many.toNat) (fun i σ' H' => ∃ (us : List (List Nat)) (dp : Nat) (x4 x7 x8 : Option V), σ' = [some (.ref d), some (.int many), some (.int (most : Int)), some (.ref N), x4, some (.int (dp : Int)), some (.str menu), x7, x8] ∧ Kp d H H' ∧ DI d l H' ∧ H' N = some (.lst (us.map sV)) ∧ us.length ≤ 60 + 2 * i ∧ Wk most us dp)
        ⟨ts, j, x4, none, none, rfl, (K1.new np).trans K2, D2, e2, by omega, hw⟩ ?_ ?_
      · rintro i σ' H3 hi ⟨us, dp, y4, y7, y8, rfl, K3, D3, e3, ul, hu⟩
        refine ⟨_, rfl, _, rfl, pick_one (cs := menu.cps.toList) D3 hz0 hz1 fun H4 zs K4 D4 ho => ?_⟩
        obtain ⟨c, rfl, _⟩ := ho
        have e4 := K4 _ _ nd.1 e3
        have K5 := K3.trans K4
        have len2 : us.length ≤ 800 := by omega
        have sV1 : ∀ z : List Nat, V.str (mkS z) = sV z := fun _ => rfl
        -- a word, a call
        have wordQ : ∀ (H5 : Hp) (zs : List Nat) (b : Bool), Kp d H4 H5 → DI d l H5 → RWord zs → ∃ (l_1 : Addr) (xs : List V) (y : V), V.ref N = .ref l_1 ∧ [sV zs] = [y] ∧ H5 l_1 = some (.lst xs) ∧ xs.length < sizeLine ∧
            ∃ (us' : List (List Nat)) (dp' : Nat) (x4 x7 x8 : Option V), [some (V.ref d), some (.int many), some (.int (most : Int)), some (.ref N), some (.int (0 + (i : Int))), some (.int (dp : Int)), some (.str menu), some (sV [c]), some (.bl b)] = [some (.ref d), some (.int many), some (.int (most : Int)), some (.ref N), x4, some (.int (dp' : Int)), some (.str menu), x7, x8] ∧ Kp d H (upd H5 l_1 (.lst (xs ++ [y]))) ∧ DI d l (upd H5 l_1 (.lst (xs ++ [y]))) ∧ upd H5 l_1 (.lst (xs ++ [y])) N = some (.lst (us'.map sV)) ∧ us'.length ≤ 60 + 2 * (i + 1) ∧ Wk most us' dp' := by
          intro H5 zs b k D hz
          have e5 := k _ _ nd.1 e4
          obtain ⟨k6, D6, e6⟩ := put H5 us zs (K5.trans k) D e5
          exact ⟨N, _, _, rfl, rfl, e5, sz us (by omega), us ++ [zs], dp, _, _, _, rfl, k6, D6, e6, by rw [List.length_append]; show us.length + 1 ≤ _; omega, .word hu hz⟩
        have callQ : ∀ (H5 : Hp) (zs : List Nat) (b : Bool), Kp d H4 H5 → DI d l H5 → RName zs → ∃ (l_1 : Addr) (xs : List V) (y : V), V.ref N = .ref l_1 ∧ [V.str (mkS (64 :: zs))] = [y] ∧ H5 l_1 = some (.lst xs) ∧ xs.length < sizeLine ∧
            ∃ (us' : List (List Nat)) (dp' : Nat) (x4 x7 x8 : Option V), [some (V.ref d), some (.int many), some (.int (most : Int)), some (.ref N), some (.int (0 + (i : Int))), some (.int (dp : Int)), some (.str menu), some (sV [c]), some (.bl b)] = [some (.ref d), some (.int many), some (.int (most : Int)), some (.ref N), x4, some (.int (dp' : Int)), some (.str menu), x7, x8] ∧ Kp d H (upd H5 l_1 (.lst (xs ++ [y]))) ∧ DI d l (upd H5 l_1 (.lst (xs ++ [y]))) ∧ upd H5 l_1 (.lst (xs ++ [y])) N = some (.lst (us'.map sV)) ∧ us'.length ≤ 60 + 2 * (i + 1) ∧ Wk most us' dp' := by
          intro H5 zs b k D hz
          have e5 := k _ _ nd.1 e4
          obtain ⟨k6, D6, e6⟩ := put H5 us (64 :: zs) (K5.trans k) D e5
          exact ⟨N, _, _, rfl, rfl, e5, sz us (by omega), us ++ [64 :: zs], dp, _, _, _, rfl, k6, D6, e6, by rw [List.length_append]; show us.length + 1 ≤ _; omega, .call hu hz⟩
        have atl : ∀ zs : List Nat, RName zs → ("@" : Str).length + (mkS zs).length ≤ sizeLine := fun zs hz => by
          have := hz.len
          rw [at_len, mkS_len]; exact Nat.le_trans (show 1 + zs.length ≤ 100 by omega) (by decide)
        have o_mk : (("o" : Str)) = mkS [111] := by decide +kernel
        have e_mk : (("e" : Str)) = mkS [101] := by decide +kernel
        have x_mk : (("x" : Str)) = mkS [120] := by decide +kernel
        have w_mk : (("w" : Str)) = mkS [119] := by decide +kernel
        -- len(tokens) > 0 and (..)
        refine ⟨fun σ' H' => ∃ b : Bool, b = free us ∧ σ' = [some (.ref d), some (.int many), some (.int (most : Int)), some (.ref N), some (.int (0 + (i : Int))), some (.int (dp : Int)), some (.str menu), some (sV [c]), some (.bl b)] ∧ H' = H4, ?_, ?_⟩
        · refine ⟨_, rfl, N, _, rfl, .inl (SqL.of e4), _, _, rfl, rfl, decide (0 < us.length), bl_of ?_, ?_⟩
          · rw [List.length_map]
            by_cases h : 0 < us.length
            · rw [decide_eq_true h]; exact decide_eq_true (by omega)
            · rw [decide_eq_false h]; exact decide_eq_false (by omega)
          by_cases h : 0 < us.length
          · rw [decide_eq_true h]
            obtain ⟨us0, z, rfl⟩ : ∃ us0 z, us = us0 ++ [z] := ⟨us.dropLast, us.getLast (by intro e; rw [e] at h; exact absurd h (by decide)), (List.dropLast_concat_getLast _).symm⟩
            have zl := hu.tok_len z (by simp)
            have ea : atI ((us0 ++ [z]).map sV) (-1) = some (sV z) := by rw [List.map_append]; exact atI_last _ _
            refine ⟨_, rfl, 1, rfl, N, _, -1, _, rfl, rfl, SqL.of e4, ea, rfl, decide (z = [125]), bl_of (dec_txt brC_mk), ?_⟩
            by_cases h2 : z = [125]
            · rw [decide_eq_true h2]
              exact ⟨true, by rw [free_snoc, decide_eq_true h2]; rfl, rfl, rfl⟩
            · rw [decide_eq_false h2]
              refine ⟨_, rfl, 1, rfl, N, _, -1, _, rfl, rfl, SqL.of e4, ea, mkS z, 0, _, rfl, rfl, ?_, head0_at zl.2, rfl, decide (z.head? = some 64), ?_, ?_⟩
              · rw [mkS_len]; exact Nat.le_trans zl.1 (by decide)
              · rw [free_snoc, decide_eq_false h2]; rfl
              · refine ⟨?_, rfl⟩
                have e9 : decide (V.str ⟨#[z.headD 0]⟩ = V.str ("@" : Str)) = decide (z.head? = some 64) := dec_head zl.2
                show [some (V.ref d), some (.int many), some (.int (most : Int)), some (.ref N), some (.int (0 + (i : Int))), some (.int (dp : Int)), some (.str menu), some (sV [c]), some (V.bl (decide (V.str ⟨#[z.headD 0]⟩ = V.str ("@" : Str))))] = _
                rw [e9]
          · rw [decide_eq_false h]
            have e9 : us = [] := List.length_eq_zero_iff.mp (by omega)
            subst e9
            exact ⟨false, rfl, rfl, rfl⟩
        rintro σ' H4' ⟨b, hb, rfl, rfl⟩
        rcases tf (decide (sV [c] = V.str ("o" : Str)) && (b && decide ((dp : Int) < (most : Int)))) with hA | hA
        · refine st_yes (Ans.to (ans_and2 (ans_eq (val_var rfl) val_c rfl rfl) (ans_and2 (ans_val (val_var rfl)) (ans_cmp (val_var rfl) (val_var rfl) fun Q q => ⟨_, _, rfl, rfl, q⟩))) hA) ?_
          have ⟨_, h2⟩ := Bool.and_eq_true_iff.mp hA
          have ⟨h3', h4'⟩ := Bool.and_eq_true_iff.mp h2
          have h5 := of_decide_eq_true h4'
          refine ⟨.ref N, rfl, .inl ⟨rfl, _, .inl (.inl e4)⟩, N, _, _, rfl, rfl, e4, sz us (by omega), ?_⟩
          rw [brO_sV]
          obtain ⟨k6, D6, e6⟩ := put H4' us [123] K5 D4 e4
          refine ⟨_, rfl, _, _, rfl, rfl, us ++ [[123]], dp + 1, _, _, _, rfl, k6, D6, e6, by rw [List.length_append]; show us.length + 1 ≤ _; omega, .opn hu (hb ▸ h3') (by omega)⟩
        refine st_no (Ans.to (ans_and2 (ans_eq (val_var rfl) val_c rfl rfl) (ans_and2 (ans_val (val_var rfl)) (ans_cmp (val_var rfl) (val_var rfl) fun Q q => ⟨_, _, rfl, rfl, q⟩))) hA) ?_
        rcases tf (decide (sV [c] = V.str ("e" : Str)) && (b && decide ((dp : Int) < (most : Int)))) with hB | hB
        · refine st_yes (Ans.to (ans_and2 (ans_eq (val_var rfl) val_c rfl rfl) (ans_and2 (ans_val (val_var rfl)) (ans_cmp (val_var rfl) (val_var rfl) fun Q q => ⟨_, _, rfl, rfl, q⟩))) hB) ?_
          have ⟨_, h2⟩ := Bool.and_eq_true_iff.mp hB
          have ⟨h3', h4'⟩ := Bool.and_eq_true_iff.mp h2
          have h5 := of_decide_eq_true h4'
          refine ⟨.ref N, rfl, .inl ⟨rfl, _, .inl (.inl e4)⟩, N, _, _, rfl, rfl, e4, sz us (by omega), ?_⟩
          rw [brO_sV]
          obtain ⟨k6, D6, e6⟩ := put H4' us [123] K5 D4 e4
          refine ⟨.ref N, rfl, .inl ⟨rfl, _, .inl (.inl e6)⟩, N, _, _, rfl, rfl, e6, sz _ (by rw [List.length_append]; show us.length + 1 ≤ _; omega), ?_⟩
          rw [brC_sV]
          obtain ⟨k7, D7, e7⟩ := put _ _ [125] k6 D6 e6
          exact ⟨us ++ [[123]] ++ [[125]], dp, _, _, _, rfl, k7, D7, e7, by rw [List.length_append, List.length_append]; show us.length + 1 + 1 ≤ _; omega, .cls (.opn hu (hb ▸ h3') (by omega))⟩
        refine st_no (Ans.to (ans_and2 (ans_eq (val_var rfl) val_c rfl rfl) (ans_and2 (ans_val (val_var rfl)) (ans_cmp (val_var rfl) (val_var rfl) fun Q q => ⟨_, _, rfl, rfl, q⟩))) hB) ?_
        rcases tf (decide (sV [c] = V.str ("x" : Str)) && decide ((0 : Int) < (dp : Int))) with hC | hC
        · refine st_yes (Ans.to (ans_and2 (ans_eq (val_var rfl) val_c rfl rfl) (ans_cmp (val_var rfl) val_c fun Q q => ⟨_, _, rfl, rfl, q⟩)) hC) ?_
          have ⟨_, h2⟩ := Bool.and_eq_true_iff.mp hC
          have h5 := of_decide_eq_true h2
          obtain ⟨d', rfl⟩ : ∃ d', dp = d' + 1 := ⟨dp - 1, by omega⟩
          refine ⟨.ref N, rfl, .inl ⟨rfl, _, .inl (.inl e4)⟩, N, _, _, rfl, rfl, e4, sz us (by omega), ?_⟩
          rw [brC_sV]
          obtain ⟨k6, D6, e6⟩ := put H4' us [125] K5 D4 e4
          refine ⟨_, rfl, _, _, rfl, rfl, us ++ [[125]], d', some (.int (0 + (i : Int))), some (sV [c]), some (.bl b), ?_, k6, D6, e6, by rw [List.length_append]; show us.length + 1 ≤ _; omega, .cls hu⟩
          show [some (V.ref d), some (.int many), some (.int (most : Int)), some (.ref N), some (.int (0 + (i : Int))), some (V.int (((d' + 1 : Nat) : Int) - 1)), some (.str menu), some (sV [c]), some (.bl b)] = _
          rw [show (((d' + 1 : Nat) : Int) - 1) = (d' : Int) from by omega]
        refine st_no (Ans.to (ans_and2 (ans_eq (val_var rfl) val_c rfl rfl) (ans_cmp (val_var rfl) val_c fun Q q => ⟨_, _, rfl, rfl, q⟩)) hC) ?_
        have wordG : ∀ (R : Prop), R → R := fun _ r => r
        refine ⟨_, rfl, rfl, _, rfl, ite2 (fun _ => ?_) (fun _ => ?_)⟩
        · exact ⟨.ref N, rfl, .inl ⟨rfl, _, .inl (.inl e4)⟩, _, rfl, d, l, rfl, D4, fun H5 zs k D hz => wordQ H5 zs b k D hz⟩
        refine ⟨_, rfl, rfl, _, rfl, ite2 (fun _ => ?_) (fun _ => ?_)⟩
        · exact ⟨.ref N, rfl, .inl ⟨rfl, _, .inl (.inl e4)⟩, _, rfl, d, l, rfl, D4, fun H5 zs k D hz => wordQ H5 zs b k D hz⟩
        · refine ⟨.ref N, rfl, .inl ⟨rfl, _, .inl (.inl e4)⟩, _, rfl, d, l, rfl, D4, fun H5 zs k D hz => ⟨_, _, rfl, rfl, atl zs hz, ?_⟩⟩
          rw [at_app]
          exact callQ H5 zs b k D hz
      · rintro σ' H3 ⟨us, dp, y4, y7, y8, rfl, K3, D3, e3, ul, hu⟩
        have dm := hu.dep_le
        refine ⟨_, rfl, by show 1 ≤ sizeLine; decide, fun p1 np1 => ?_⟩
        refine ⟨_, rfl, p1, (dp : Int), _, rfl, rfl, upd_same, by omega, by omega, ?_, fun p2 np2 => ?_⟩
        · show 1 * _ ≤ sizeLine
          exact Nat.le_trans (show 1 * ((dp : Int)).toNat ≤ 100 by omega) (by decide)
        have e4 : upd (upd H3 p1 (.lst [V.str ("}" : Str)])) p2 (.lst (List.replicate ((dp : Int)).toNat [V.str ("}" : Str)]).flatten) N = some (.lst (us.map sV)) := by
          have e5 : upd H3 p1 (.lst [V.str ("}" : Str)]) N = some (.lst (us.map sV)) := by rw [upd_ne (ne_of_none e3 np1)]; exact e3
          rw [upd_ne (ne_of_none e5 np2)]; exact e5
        refine ⟨N, p2, _, _, rfl, rfl, e4, upd_same, ?_, fun p3 np3 => ?_⟩
        · rw [flat_rep, List.length_map, List.length_map, List.length_replicate]
          exact Nat.le_trans (show us.length + ((dp : Int)).toNat ≤ 2000 by omega) (by decide)
        have K6 : Kp d H _ := (K3.new (o := .lst [V.str ("}" : Str)]) np1).new (o := .lst (List.replicate ((dp : Int)).toNat [V.str ("}" : Str)]).flatten) np2
        have free3 : H p3 = none := by
          cases e : H p3 with
          | none => rfl
          | some o => rw [K6 p3 o (((D3.new np1).new np2).nd np3).1 e] at np3; cases np3
        refine q _ p3 (us ++ List.replicate dp [125]) (K6.new np3) (((D3.new np1).new np2).new np3) free3 ?_ (hu.closed dp us) ?_
        · rw [upd_same, flat_rep, ← List.map_append]
          rfl
        · rw [List.length_append, List.length_replicate]; omega
end
end Vf

set_option Elab.async false
set_option linter.all false
set_option maxRecDepth 100000
set_option maxHeartbeats 4000000
namespace Vf
open PySem PySem.Spec PyProof.Rows L2 TL
/-! ### a tree of tokens -/
/-- the tokens of open levels, the innermost one first -/
def flatR : List Tr → List (List Nat)
  | [] => []
  | [t] => toksT t
  | t :: u :: s => flatR (u :: s) ++ [123] :: toksT t
theorem flatR_head (t t' : Tr) (s : List Tr) (ws : List (List Nat)) (h : toksT t' = toksT t ++ ws) : flatR (t' :: s) = flatR (t :: s) ++ ws := by
  cases s with
  | nil => exact h
  | cons u s =>
    show flatR (u :: s) ++ [123] :: toksT t' = (flatR (u :: s) ++ [123] :: toksT t) ++ ws
    rw [h, List.append_assoc]; rfl
def endsC (t : Tr) : Prop := ∃ u n a, t = appT u (.call n a .nil)
theorem RepT.split {H : Hp} : ∀ {t u : Tr} {vs : List V}, RepT H (appT t u) vs → ∃ v1 v2, vs = v1 ++ v2 ∧ RepT H t v1 ∧ RepT H u v2
  | .nil, u, vs, h => ⟨[], vs, rfl, by simp only [RepT], h⟩
  | .word w r, u, vs, h => by
    simp only [RepT, appT] at h
    obtain ⟨p, vs', rfl, a, b⟩ := h
    obtain ⟨v1, v2, rfl, h1, h2⟩ := RepT.split b
    exact ⟨.ref p :: v1, v2, rfl, by simp only [RepT]; exact ⟨p, v1, rfl, a, h1⟩, h2⟩
  | .call n a r, u, vs, h => by
    simp only [RepT, appT] at h
    obtain ⟨p, q, us, vs', rfl, x, b, c, d⟩ := h
    obtain ⟨v1, v2, rfl, h1, h2⟩ := RepT.split d
    exact ⟨.ref p :: v1, v2, rfl, by simp only [RepT]; exact ⟨p, q, us, v1, rfl, x, b, c, h1⟩, h2⟩
theorem GoodT_split : ∀ {t u : Tr}, GoodT (appT t u) → GoodT t ∧ GoodT u
  | .nil, u, h => by simp only [appT] at h; exact ⟨by simp only [GoodT], h⟩
  | .word w r, u, h => by
    simp only [appT, GoodT] at h ⊢
    have ⟨a, b⟩ := GoodT_split h.2
    exact ⟨⟨h.1, a⟩, b⟩
  | .call n a r, u, h => by
    simp only [appT, GoodT] at h ⊢
    have ⟨c, b⟩ := GoodT_split h.2.2
    exact ⟨⟨h.1, h.2.1, c⟩, b⟩
abbrev Stk := List (Addr × Tr)
def lvs (st : Stk) : List V := (st.map fun e => V.ref e.1).reverse
theorem lvs_cons (e : Addr × Tr) (s : Stk) : lvs (e :: s) = lvs s ++ [.ref e.1] := by
  unfold lvs; rw [List.map_cons, List.reverse_cons]
structure Lv (H H' : Hp) (zV : Addr) (st : Stk) : Prop where
  hV : H' zV = some (.lst (lvs st))
  ea : ∀ e ∈ st, H e.1 = none ∧ e.1 ≠ zV ∧ ∃ vs, H' e.1 = some (.lst vs) ∧ RepT H' e.2 vs
  nd : (st.map (·.1)).Nodup
  S : Same H H'
  nV : H zV = none
section
variable {H H' : Hp} {zV : Addr} {st s : Stk}
theorem Lv.new {q : Addr} {o : HO} (h : Lv H H' zV st) (hq : H' q = none) : Lv H (upd H' q o) zV st := by
  refine ⟨by rw [upd_ne (ne_of_none h.hV hq)]; exact h.hV, fun e he => ?_, h.nd, same_upd h.S hq, h.nV⟩
  obtain ⟨a, b, vs, c, d⟩ := h.ea e he
  exact ⟨a, b, vs, by rw [upd_ne (ne_of_none c hq)]; exact c, d.keep (TKeep.new hq)⟩
theorem Lv.set {p : Addr} {t u : Tr} {vs : List V} (h : Lv H H' zV ((p, t) :: s)) (hu : RepT H' u vs) : Lv H (upd H' p (.lst vs)) zV ((p, u) :: s) := by
  obtain ⟨a, b, ws, c, d⟩ := h.ea (p, t) List.mem_cons_self
  have tk : TKeep H' (upd H' p (.lst vs)) := TKeep.mut c
  have nd := h.nd
  rw [List.map_cons, List.nodup_cons] at nd
  refine ⟨by rw [upd_ne b.symm]; exact h.hV, fun e he => ?_, h.nd, same_mut h.S a, h.nV⟩
  rcases List.mem_cons.mp he with rfl | he
  · exact ⟨a, b, vs, upd_same, hu.keep tk⟩
  · obtain ⟨a2, b2, ws2, c2, d2⟩ := h.ea e (List.mem_cons_of_mem _ he)
    have ne : e.1 ≠ p := fun z => nd.1 (List.mem_map.mpr ⟨e, he, z⟩)
    exact ⟨a2, b2, ws2, by rw [upd_ne ne]; exact c2, d2.keep tk⟩
theorem Lv.push {q : Addr} (h : Lv H H' zV st) (hq : H' q = none) : Lv H (upd (upd H' q (.lst [])) zV (.lst (lvs st ++ [.ref q]))) zV ((q, .nil) :: st) := by
  have h1 := h.new (o := .lst []) hq
  have nqV : q ≠ zV := fun z => by rw [z, h.hV] at hq; cases hq
  have nqH : H q = none := h.S.free hq
  have tk : TKeep (upd H' q (.lst [])) (upd (upd H' q (.lst [])) zV (.lst (lvs st ++ [.ref q]))) := TKeep.mut h1.hV
  refine ⟨by rw [upd_same, lvs_cons], fun e he => ?_, ?_, same_mut h1.S h.nV, h.nV⟩
  · rcases List.mem_cons.mp he with rfl | he
    · exact ⟨nqH, nqV, [], by rw [upd_ne nqV]; exact upd_same, by simp only [RepT]⟩
    · obtain ⟨a2, b2, ws2, c2, d2⟩ := h1.ea e he
      exact ⟨a2, b2, ws2, by rw [upd_ne b2]; exact c2, d2.keep tk⟩
  · rw [List.map_cons, List.nodup_cons]
    refine ⟨fun hm => ?_, h.nd⟩
    obtain ⟨e, he, ee⟩ := List.mem_map.mp hm
    obtain ⟨_, _, vs, c, _⟩ := h.ea e he
    have ee2 : e.1 = q := ee
    rw [ee2, hq] at c
    cases c
theorem Lv.pop {e : Addr × Tr} (h : Lv H H' zV (e :: s)) : Lv H (upd H' zV (.lst (lvs s))) zV s ∧ ∃ vs, upd H' zV (.lst (lvs s)) e.1 = some (.lst vs) ∧ RepT (upd H' zV (.lst (lvs s))) e.2 vs := by
  have tk : TKeep H' (upd H' zV (.lst (lvs s))) := TKeep.mut h.hV
  have nd := h.nd
  rw [List.map_cons, List.nodup_cons] at nd
  refine ⟨⟨upd_same, fun x hx => ?_, nd.2, same_mut h.S h.nV, h.nV⟩, ?_⟩
  · obtain ⟨a2, b2, ws2, c2, d2⟩ := h.ea x (List.mem_cons_of_mem _ hx)
    exact ⟨a2, b2, ws2, by rw [upd_ne b2]; exact c2, d2.keep tk⟩
  · obtain ⟨a2, b2, ws2, c2, d2⟩ := h.ea e List.mem_cons_self
    exact ⟨ws2, by rw [upd_ne b2]; exact c2, d2.keep tk⟩
end
def dCount : List (List Nat) → Int
  | [] => 0
  | t :: r => (if t = [123] then 1 else if t = [125] then -1 else 0) + dCount r
theorem dCount_snoc : ∀ (ts : List (List Nat)) (t : List Nat), dCount (ts ++ [t]) = dCount ts + (if t = [123] then 1 else if t = [125] then -1 else 0)
  | [], t => by simp only [dCount, List.nil_append]; omega
  | u :: r, t => by
    have := dCount_snoc r t
    simp only [dCount, List.cons_append]
    omega
theorem Wk.count {most : Nat} {ts : List (List Nat)} {dp : Nat} (h : Wk most ts dp) : dCount ts = (dp : Int) := by
  induction h with
  | nil => rfl
  | opn _ _ _ ih => rw [dCount_snoc, if_pos rfl, ih]; omega
  | cls _ ih => rw [dCount_snoc, if_neg (by decide), if_pos rfl, ih]; omega
  | call _ _ ih =>
    rw [dCount_snoc, if_neg (by intro e; injection e with e1 _; exact absurd e1 (by decide)), if_neg (by intro e; injection e with e1 _; exact absurd e1 (by decide)), ih]; omega
  | word _ b ih => rw [dCount_snoc, if_neg b.head.2.1, if_neg b.head.2.2, ih]; omega
theorem Wk.det {m1 m2 : Nat} {ts : List (List Nat)} {a b : Nat} (h : Wk m1 ts a) (k : Wk m2 ts b) : a = b := by
  have h1 := h.count
  have h2 := k.count
  omega
def depOK (most : Nat) : Stk → Prop
  | [] => True
  | e :: s => depT e.2 + s.length ≤ most ∧ depOK most s
/-- how the levels stand behind the tokens ts -/
structure LvT (most : Nat) (st : Stk) (ts : List (List Nat)) : Prop where
  fl : flatR (st.map (·.2)) = ts
  w : ∃ dp, st.length = dp + 1 ∧ Wk most ts dp
  ec : ∀ e ∈ st.tail, endsC e.2
  fr : free ts = true → ∀ e, st.head? = some e → endsC e.2
  dp : depOK most st
  g : ∀ e ∈ st, GoodT e.2
theorem cut_tail {n : List Nat} (hl : n.length ≤ 1000) : cutS (mkS (64 :: n)) (some 1) none = mkS n := by
  unfold cutS
  have h1 : HT.sIx (mkS (64 :: n)).length 0 (some 1) = 1 := by
    rw [show (1 : Int) = ((1 : Nat) : Int) from rfl, HT.sIx_nat, mkS_len]
    show min 1 (n.length + 1) = 1
    omega
  rw [h1, HT.sIx_none, mkS_len]
  show mkS ((n).take (n.length + 1 - 1)) = mkS n
  rw [List.take_of_length_le (by omega)]
theorem last_map {xs : List V} {x : V} : (xs ++ [x])[(xs ++ [x]).length - 1]? = some x := by
  rw [List.length_append, List.length_singleton, Nat.add_sub_cancel, List.getElem?_append_right (Nat.le_refl _), Nat.sub_self]
  rfl
theorem appT_nil : ∀ t : Tr, appT t .nil = t
  | .nil => rfl
  | .word w r => by simp only [appT, appT_nil r]
  | .call n a r => by simp only [appT, appT_nil r]
theorem appT_assoc : ∀ t u v : Tr, appT (appT t u) v = appT t (appT u v)
  | .nil, u, v => rfl
  | .word w r, u, v => by simp only [appT, appT_assoc r u v]
  | .call n a r, u, v => by simp only [appT, appT_assoc r u v]
theorem stk_len {most : Nat} {st : Stk} {ts : List (List Nat)} (h : LvT most st ts) : st.length ≤ most + 1 := by
  obtain ⟨dp, e, w⟩ := h.w
  have := w.dep_le
  omega
section
variable {P : Program} {w : World} {K : PySem.W.Frag} {mg : Str → Option Value} {base : Heap}
def spTreeOf (K : PySem.W.Frag) : Sp := fun vs H Q _ => ∃ (p : Addr) (ts : List (List Nat)) (most : Nat), vs = [.ref p] ∧ SqL K H p (ts.map sV) ∧ Wk most ts 0 ∧ ts.length ≤ 5000 ∧ most ≤ 100 ∧
  ∀ H' v t, Same H H' → TV H' v t → toksT t = ts → depT t ≤ most → GoodT t → Q v H'
theorem ok_tree_of (T : Txt K mg) : FnOk P w K mg base CX0 1 T.a_law_tree_of T.d_law_tree_of ["_law_tokens"] (spTreeOf K) := by
  refine T.D_law_tree_of.F.ok sc_law_tree_of (fun vs H Q E h => ?_) (fun cdv A outer s H vs Q E hr h => ?_)
  · obtain ⟨p, ts, most, rfl, _⟩ := h
    rfl
  · obtain ⟨p, ts, most, rfl, hS, hw, hl, hm, q⟩ := h
    refine ⟨_, (pss_cons (ps_set (i := 1) sc_law_tree_of.nd rfl (.inl rfl) (pe_lst (pa_cons (pe_lst pa_nil) pa_nil)))
      (pss_cons (ps_for PassesOwn.never rfl (pi_list (pv 0)) (pg_name (i := 2) sc_law_tree_of.nd rfl (.inl rfl)) (pss_one (ps_if (pt_cmpR op_eq (pv 2) pe_str (nomark _)) (pss_one (ps_expr (pe_bm PySem.F.plainAttrs_list PySem.F.slot_list_append PySem.F.type_list_append mt_append (pv 1) (pa_cons (pe_lst pa_nil) pa_nil)))) (pss_one (ps_if (pt_cmpR op_eq (pv 2) pe_str (nomark _)) (pss_cons (ps_set (i := 3) sc_law_tree_of.nd rfl (.inl rfl) (pe_callTy call_tuple_of (by rfl) T.n_tuple (by decide +kernel) (pa_cons (pe_bm0 PySem.F.plainAttrs_list PySem.F.slot_list_pop PySem.F.type_list_pop mt_pop (pv 1)) pa_nil)))
      (pss_cons (ps_set (i := 4) sc_law_tree_of.nd rfl (.inl rfl) (pe_bm0 PySem.F.plainAttrs_list PySem.F.slot_list_pop PySem.F.type_list_pop mt_pop (pe_ix ix_list (pv 1) (pe_un un_neg pe_int) (fun _ _ => rfl))))
      (pss_one (ps_expr (pe_bm PySem.F.plainAttrs_list PySem.F.slot_list_append PySem.F.type_list_append mt_append (pe_ix ix_list (pv 1) (pe_un un_neg pe_int) (fun _ _ => rfl)) (pa_cons (pe_tup (pa_cons pe_str (pa_cons (pe_ix ix_tup (pv 4) pe_int (fun _ _ => rfl)) (pa_cons (pe_op op_catA (pe_ix ix_tup (pv 4) pe_int (fun _ _ => rfl)) (pe_tup (pa_cons (pv 3) pa_nil))) pa_nil)))) pa_nil)))))) (pss_one (ps_if (pt_cmpR op_eq (pe_ix ix_str (pv 2) pe_int (fun _ _ => rfl)) pe_str (nomark _)) (pss_one (ps_expr (pe_bm PySem.F.plainAttrs_list PySem.F.slot_list_append PySem.F.type_list_append mt_append (pe_ix ix_list (pv 1) (pe_un un_neg pe_int) (fun _ _ => rfl)) (pa_cons (pe_tup (pa_cons pe_str (pa_cons (pe_slice sl_str (pv 2) (po_some pe_int) po_none) (pa_cons (pe_tup pa_nil) pa_nil)))) pa_nil)))) (pss_one (ps_expr (pe_bm PySem.F.plainAttrs_list PySem.F.slot_list_append PySem.F.type_list_append mt_append (pe_ix ix_list (pv 1) (pe_un un_neg pe_int) (fun _ _ => rfl)) (pa_cons (pe_tup (pa_cons pe_str (pa_cons (pv 2) pa_nil))) pa_nil)))))))))))
      (pss_one (ps_ret (pe_callTy call_tuple_of (by rfl) T.n_tuple (by decide +kernel) (pa_cons (pe_ix ix_list (pv 1) pe_int (fun _ _ => rfl)) pa_nil)))))), ?_⟩
    refine ⟨by show 0 ≤ sizeLine; decide, fun l0 n0 => ⟨by show 1 ≤ sizeLine; decide, fun zV nV => ?_⟩⟩
    have nVl : l0 ≠ zV := ne_of_none upd_same nV
    have nVH : H zV = none := by rw [upd_ne nVl.symm] at nV; exact nV
    have L0 : Lv H (upd (upd H l0 (.lst [])) zV (.lst [.ref l0])) zV [(l0, .nil)] := by
      refine ⟨upd_same, fun e he => ?_, by simp, same_upd (same_upd (Same.refl H) n0) nV, nVH⟩
      rw [List.mem_singleton.mp he]
      exact ⟨n0, nVl, [], by rw [upd_ne nVl]; exact upd_same, by simp only [RepT]⟩
    refine ⟨_, rfl, p, rfl, ⟨_, L0.S.seq hS⟩, ?_⟩
    refine for_list (K := K) (a := p) (xs := ts.map sV) (fun i σ' H' => ∃ (st : Stk) (x2 x3 x4 : Option L2.V), σ' = [some (.ref p), some (.ref zV), x2, x3, x4] ∧ Lv H H' zV st ∧ LvT most st (ts.take i))
      ⟨_, none, none, none, rfl, L0, ⟨rfl, ⟨0, rfl, .nil⟩, (fun e he => nomatch he), (fun h => by cases h), ⟨by show depT .nil + 0 ≤ most; simp only [depT]; omega, trivial⟩, fun e he => by rw [List.mem_singleton.mp he]; simp only [GoodT]⟩⟩ ?_ ?_ ?_
    · rintro i σ' H' _ ⟨_, _, _, _, _, L, _⟩
      exact L.S.seq hS
    · rintro i x σ' H' hx ⟨st, x2, x3, x4, rfl, L, LT⟩
      rw [List.getElem?_map] at hx
      obtain ⟨z, hz, rfl⟩ : ∃ z, ts[i]? = some z ∧ sV z = x := by
        cases h : ts[i]? with
        | none => rw [h] at hx; cases hx
        | some z => rw [h] at hx; exact ⟨z, rfl, Option.some.inj hx⟩
      have et : ts.take (i + 1) = ts.take i ++ [z] := take_succ' hz
      obtain ⟨dq, hwq⟩ : ∃ d, Wk most (ts.take (i + 1)) d := Wk.pre (ts.drop (i + 1)) (ts.take (i + 1)) 0 (by rw [List.take_append_drop]; exact hw)
      rw [et] at hwq
      obtain ⟨dp, el, hdp⟩ := LT.w
      have zl := hwq.tok_len z (by simp)
      have sl := stk_len LT
      have fl0 := LT.fl
      cases st with
      | nil => cases el
      | cons e0 s =>
        obtain ⟨p0, t0⟩ := e0
        have el2 : s.length = dp := Nat.succ.inj el
        -- levels[-1]
        have at0 : atI (lvs ((p0, t0) :: s)) (-1) = some (.ref p0) := by rw [lvs_cons]; exact atI_last _ _
        obtain ⟨a0, b0, vs0, c0, r0⟩ := L.ea (p0, t0) List.mem_cons_self
        have g0 := LT.g (p0, t0) List.mem_cons_self
        have d0 := LT.dp.1
        -- a node more at the innermost level
        have addN : ∀ (H2 : Hp) (v : L2.V) (n : Tr), Lv H H2 zV ((p0, t0) :: s) → RepT H2 n [v] → depT n = 0 → GoodT n → toksT n = [z] → Wk most (ts.take i ++ [z]) dp → (free (ts.take i ++ [z]) = true → ∃ nm a, n = .call nm a .nil) →
            ∃ vs, H2 p0 = some (.lst vs) ∧ vs.length < sizeLine ∧ Lv H (upd H2 p0 (.lst (vs ++ [v]))) zV ((p0, appT t0 n) :: s) ∧ LvT most ((p0, appT t0 n) :: s) (ts.take (i + 1)) := by
          intro H2 v n L2' hn dn gn tn hw2 hf
          obtain ⟨_, _, vs, c, r⟩ := L2'.ea (p0, t0) List.mem_cons_self
          refine ⟨vs, c, ?_, L2'.set (r.app hn), ?_⟩
          · have h1 : vs.length ≤ (toksT t0).length := r.len
            have h2 : (toksT t0).length ≤ (ts.take i).length := by
              rw [← fl0]
              cases s with
              | nil => exact Nat.le_refl _
              | cons u s2 =>
                show (toksT t0).length ≤ (flatR (u.2 :: s2.map (·.2)) ++ [123] :: toksT t0).length
                rw [List.length_append, List.length_cons]
                omega
            rw [List.length_take] at h2
            exact lt_size (by omega)
          · rw [et]
            refine ⟨?_, ⟨dp, el, hw2⟩, LT.ec, fun hfr e he => ?_, ⟨?_, LT.dp.2⟩, fun e he => ?_⟩
            · rw [← fl0]
              exact flatR_head t0 _ _ [z] (by rw [toksT_app, tn])
            · obtain ⟨nm, a, rfl⟩ := hf hfr
              cases he
              exact ⟨t0, nm, a, rfl⟩
            · show depT (appT t0 n) + s.length ≤ most
              rw [depT_app, dn]
              have : depT t0 + s.length ≤ most := d0
              omega
            · rcases List.mem_cons.mp he with rfl | he
              · exact GoodT_app g0 gn
              · exact LT.g e (List.mem_cons_of_mem _ he)
        have lt_size' : ∀ {n : Nat}, n < 100000 → n < sizeLine := fun h => lt_size h
        rcases hwq.inv rfl with ⟨rfl, hfr, d2, rfl, hd2, hw3⟩ | ⟨rfl, hw3⟩ | ⟨nm, rfl, hnm, hw3⟩ | ⟨hzw, hw3⟩
        · -- an open brace
          have ed : d2 = dp := Wk.det hw3 hdp
          subst ed
          refine ⟨_, rfl, rfl, true, bl_of ((dec_txt brO_mk).trans (decide_eq_true rfl)), ?_⟩
          refine ⟨.ref zV, rfl, .inl ⟨rfl, _, SqL.of L.hV⟩, by show 0 ≤ sizeLine; decide, fun q nq => ?_⟩
          have hV2 : upd H' q (.lst []) zV = some (.lst (lvs ((p0, t0) :: s))) := by rw [upd_ne (ne_of_none L.hV nq)]; exact L.hV
          refine ⟨zV, _, _, rfl, rfl, hV2, ?_, ?_⟩
          · unfold lvs
            rw [List.length_reverse, List.length_map]
            exact lt_size (by omega)
          · refine ⟨_, _, _, _, rfl, L.push nq, ?_⟩
            rw [et]
            refine ⟨?_, ⟨d2 + 1, by rw [List.length_cons, el], hwq⟩, ?_, fun h => ?_, ⟨?_, LT.dp⟩, fun e he => ?_⟩
            · rw [← fl0]
              show flatR (.nil :: t0 :: s.map (·.2)) = flatR (t0 :: s.map (·.2)) ++ [[123]]
              simp only [flatR, toksT]
            · intro e he
              rcases List.mem_cons.mp he with rfl | he
              · exact LT.fr hfr _ rfl
              · exact LT.ec e he
            · rw [free_snoc] at h
              exact absurd h (by decide)
            · show depT .nil + ((p0, t0) :: s).length ≤ most
              simp only [depT]
              rw [el]; omega
            · rcases List.mem_cons.mp he with rfl | he
              · simp only [GoodT]
              · exact LT.g e he
        · -- a closing brace
          have ed : dq + 1 = dp := Wk.det hw3 hdp
          cases s with
          | nil =>
            have : 0 = dp := el2
            omega
          | cons e1 s =>
            obtain ⟨p1, t1⟩ := e1
            refine ⟨_, rfl, rfl, false, bl_of ((dec_txt brO_mk).trans (decide_eq_false (by decide))), ?_⟩
            refine ⟨_, rfl, rfl, true, bl_of ((dec_txt brC_mk).trans (decide_eq_true rfl)), ?_⟩
            -- inner = tuple(levels.pop())
            have hV0 := L.hV
            rw [lvs_cons] at hV0
            refine ⟨.ref zV, rfl, .inl ⟨rfl, _, SqL.of hV0⟩, zV, _, _, rfl, rfl, hV0, last_map, ?_⟩
            rw [List.dropLast_concat]
            obtain ⟨L1, vsI, cI, rI⟩ := L.pop
            refine ⟨p0, vsI, rfl, .inl ⟨SqL.of cI, fun x nx => ?_⟩⟩
            have L2' := L1.new (o := .tup vsI) nx
            have tkx : TKeep (upd H' zV (.lst (lvs ((p1, t1) :: s)))) _ := TKeep.new (o := .tup vsI) nx
            -- call = levels[-1].pop()
            have at1 : atI (lvs ((p1, t1) :: s)) (-1) = some (.ref p1) := by rw [lvs_cons]; exact atI_last _ _
            obtain ⟨u, nm, a, et1⟩ := LT.ec (p1, t1) List.mem_cons_self
            obtain ⟨a1, b1, vs1, c1, r1⟩ := L2'.ea (p1, t1) List.mem_cons_self
            have et1' : t1 = appT u (.call nm a .nil) := et1
            subst et1'
            obtain ⟨vu, vc, rfl, ru, rc⟩ := r1.split
            simp only [RepT] at rc
            obtain ⟨cp, cq, us, vs', rfl, hcp, hcq, hA, rfl⟩ := rc
            refine ⟨_, rfl, 1, rfl, zV, _, -1, _, rfl, rfl, SqL.of L2'.hV, at1, .inl ⟨rfl, _, SqL.of c1⟩, p1, _, _, rfl, rfl, c1, last_map, ?_⟩
            rw [List.dropLast_concat]
            have L3 := L2'.set (u := u) (vs := vu) ru
            have tk3 := TKeep.mut (o := .lst vu) c1
            have g1 := LT.g (p1, appT u (.call nm a .nil)) (List.mem_cons_of_mem _ List.mem_cons_self)
            have ⟨gu, gc⟩ := GoodT_split g1
            simp only [GoodT] at gc
            have d1 := LT.dp.2.1
            -- levels[-1].append(..)
            refine ⟨_, rfl, 1, rfl, zV, _, -1, _, rfl, rfl, SqL.of L3.hV, at1, .inl ⟨rfl, _, SqL.of upd_same⟩, ?_⟩
            refine ⟨_, rfl, _, _, _, _, rfl, rfl, SqT.of (tk3 _ _ hcp), rfl, _, rfl, _, _, _, _, rfl, rfl, SqT.of (tk3 _ _ hcp), rfl, _, rfl, by show 1 ≤ sizeLine; decide, fun y ny => ?_⟩
            have L4 := L3.new (o := .tup [.ref x]) ny
            have tk4 := TKeep.new (o := .tup [.ref x]) ny
            have hx3 : TKeep _ _ := tk3
            -- what follows with the tuple of arguments at zz
            have fin : ∀ (H9 : Hp) (zz : Addr) (R : L2.St → Hp → Prop), Lv H H9 zV ((p1, u) :: s) → H9 zz = some (.tup (us ++ [.ref x])) → RepA H9 (appA a (.cons t0 .nil)) (us ++ [.ref x]) →
                (∀ H2 st2, Lv H H2 zV st2 → LvT most st2 (ts.take (i + 1)) → R [some (.ref p), some (.ref zV), some (sV [125]), some (.ref x), some (.ref cp)] H2) →
                [kCall, sV nm, .ref zz].length ≤ sizeLine ∧ ∀ r, H9 r = none → ∃ (l : Addr) (xs : List L2.V) (y : L2.V), V.ref p1 = .ref l ∧ [V.ref r] = [y] ∧ upd H9 r (.tup [kCall, sV nm, .ref zz]) l = some (.lst xs) ∧ xs.length < sizeLine ∧ R [some (.ref p), some (.ref zV), some (sV [125]), some (.ref x), some (.ref cp)] (upd (upd H9 r (.tup [kCall, sV nm, .ref zz])) l (.lst (xs ++ [y]))) := by
              intro H9 zz R L9 hzz hAz hR
              refine ⟨by show 3 ≤ sizeLine; decide, fun r nr => ?_⟩
              have L10 := L9.new (o := .tup [kCall, sV nm, .ref zz]) nr
              have tk := TKeep.new (o := .tup [kCall, sV nm, .ref zz]) nr
              obtain ⟨_, _, vsu, cu, ru2⟩ := L10.ea (p1, u) List.mem_cons_self
              have vl : vsu.length < sizeLine := by
                have h1 : vsu.length ≤ (toksT u).length := ru2.len
                have h2 : (toksT u).length ≤ (ts.take i).length := by
                  rw [← fl0]
                  show _ ≤ (flatR (appT u (.call nm a .nil) :: s.map (·.2)) ++ [123] :: toksT t0).length
                  have h3 : (toksT (appT u (.call nm a .nil))).length ≤ (flatR (appT u (.call nm a .nil) :: s.map (·.2))).length := by
                    cases s with
                    | nil => exact Nat.le_refl _
                    | cons e s2 =>
                      show _ ≤ (flatR (e.2 :: s2.map (·.2)) ++ [123] :: toksT (appT u (.call nm a .nil))).length
                      rw [List.length_append, List.length_cons]; omega
                  rw [toksT_app, List.length_append] at h3
                  rw [List.length_append]; omega
                rw [List.length_take] at h2
                exact lt_size (by omega)
              refine ⟨p1, vsu, _, rfl, rfl, cu, vl, ?_⟩
              refine hR _ ((p1, appT u (.call nm (appA a (.cons t0 .nil)) .nil)) :: s) (L10.set (ru2.app ?_)) ?_
              · simp only [RepT]
                exact ⟨r, zz, _, [], rfl, upd_same, tk _ _ hzz, hAz.keep tk, rfl⟩
              · rw [et]
                refine ⟨?_, ⟨dq, ?_, hwq⟩, (fun e he => LT.ec e (List.mem_cons_of_mem _ he)), fun _ e he => ?_, ⟨?_, LT.dp.2.2⟩, fun e he => ?_⟩
                · rw [← fl0]
                  show flatR (appT u (.call nm (appA a (.cons t0 .nil)) .nil) :: s.map (·.2)) = (flatR (appT u (.call nm a .nil) :: s.map (·.2)) ++ [123] :: toksT t0) ++ [[125]]
                  rw [flatR_head (appT u (.call nm a .nil)) (appT u (.call nm (appA a (.cons t0 .nil)) .nil)) (s.map (·.2)) ([123] :: (toksT t0 ++ [[125]]))]
                  · simp only [List.append_assoc, List.cons_append]
                  · rw [toksT_app, toksT_app]
                    simp only [toksT, toksA_app, toksA, List.append_nil, List.append_assoc, List.cons_append, List.nil_append]
                · have e8 : ((p1, appT u (.call nm a .nil)) :: s).length = dp := el2
                  rw [List.length_cons] at e8 ⊢
                  omega
                · cases he
                  exact ⟨u, nm, _, rfl⟩
                · show depT (appT u (.call nm (appA a (.cons t0 .nil)) .nil)) + s.length ≤ most
                  have h1 : depT (appT u (.call nm a .nil)) + s.length ≤ most := d1
                  have h2 : depT t0 + ((p1, appT u (.call nm a .nil)) :: s).length ≤ most := d0
                  rw [depT_app] at h1 ⊢
                  simp only [depT, depA_app, depA] at h1 ⊢
                  rw [List.length_cons] at h2
                  omega
                · rcases List.mem_cons.mp he with rfl | he
                  · refine GoodT_app gu ?_
                    simp only [GoodT]
                    refine ⟨gc.1, GoodA_app gc.2.1 ?_, trivial⟩
                    simp only [GoodA]
                    exact ⟨g0, trivial⟩
                  · exact LT.g e (List.mem_cons_of_mem _ (List.mem_cons_of_mem _ he))
            have hx1 : upd (upd H' zV (.lst (lvs ((p1, appT u (.call nm a .nil)) :: s)))) x (.tup vsI) x = some (.tup vsI) := upd_same
            have hAe : ∀ H9 : Hp, TKeep _ H9 → RepA H9 (appA a (.cons t0 .nil)) (us ++ [.ref x]) := fun H9 tk9 => by
              refine RepA.app (hA.keep tk9) ?_
              simp only [RepA]
              exact ⟨x, vsI, [], rfl, tk9 _ _ hx1, (rI.keep tkx).keep tk9, rfl⟩
            have hA4 := hA.keep (tk3.trans tk4)
            have ul : us.length ≤ 20000 := by
              have h1 := hA.len
              have h2 : (toksA a).length ≤ (ts.take i).length := by
                rw [← fl0]
                show _ ≤ (flatR (appT u (.call nm a .nil) :: s.map (·.2)) ++ [123] :: toksT t0).length
                have h3 : (toksT (appT u (.call nm a .nil))).length ≤ (flatR (appT u (.call nm a .nil) :: s.map (·.2))).length := by
                  cases s with
                  | nil => exact Nat.le_refl _
                  | cons e s2 =>
                    show _ ≤ (flatR (e.2 :: s2.map (·.2)) ++ [123] :: toksT (appT u (.call nm a .nil))).length
                    rw [List.length_append, List.length_cons]; omega
                rw [toksT_app, List.length_append] at h3
                simp only [toksT, List.length_append, List.length_cons] at h3
                rw [List.length_append]; omega
              rw [List.length_take] at h2
              omega
            refine ⟨cq, y, us, [.ref x], rfl, rfl, SqT.of ((tk3.trans tk4) _ _ hcq), SqT.of upd_same, Nat.le_trans (show us.length + 1 ≤ 30000 by omega) (by decide), fun eu => ?_, (fun _ e => by cases e), fun _ _ zz nzz => ?_⟩
            · subst eu
              exact fin _ y _ L4 upd_same (hAe _ (tk3.trans tk4)) fun H2 st2 l2 lt2 => ⟨st2, _, _, _, rfl, l2, lt2⟩
            · have tk5 := TKeep.new (o := .tup (us ++ [.ref x])) nzz
              exact fin _ zz _ (L4.new nzz) upd_same (hAe _ ((tk3.trans tk4).trans tk5)) fun H2 st2 l2 lt2 => ⟨st2, _, _, _, rfl, l2, lt2⟩
        · -- a call
          have ed : dq = dp := Wk.det hw3 hdp
          subst ed
          have nl := hnm.len
          refine ⟨_, rfl, rfl, false, bl_of ((dec_txt brO_mk).trans (decide_eq_false (by intro e; injection e with e1 _; exact absurd e1 (by decide)))), ?_⟩
          refine ⟨_, rfl, rfl, false, bl_of ((dec_txt brC_mk).trans (decide_eq_false (by intro e; injection e with e1 _; exact absurd e1 (by decide)))), ?_⟩
          have zs : (mkS (64 :: nm)).length ≤ sizeLine := by rw [mkS_len]; exact Nat.le_trans zl.1 (by decide)
          refine ⟨_, rfl, mkS (64 :: nm), 0, _, rfl, rfl, zs, head0_at zl.2, rfl, true, bl_of ((dec_head zl.2).trans (decide_eq_true rfl)), ?_⟩
          refine ⟨_, rfl, 1, rfl, zV, _, -1, _, rfl, rfl, SqL.of L.hV, at0, .inl ⟨rfl, _, SqL.of c0⟩, ?_⟩
          refine ⟨_, rfl, 1, rfl, mkS (64 :: nm), rfl, zs, ?_⟩
          rw [cut_tail (by omega)]
          refine ⟨Nat.zero_le _, fun e ne => ⟨by show 3 ≤ sizeLine; decide, fun r nr => ?_⟩⟩
          have L5 := (L.new (o := .tup []) ne).new (o := .tup [kCall, sV nm, .ref e]) nr
          obtain ⟨vs, c5, vl, L6, LT6⟩ := addN _ (.ref r) (.call nm .nil .nil) L5 (by
            simp only [RepT, RepA]
            exact ⟨r, e, [], [], rfl, upd_same, by rw [upd_ne (ne_of_none upd_same nr)]; exact upd_same, rfl, rfl⟩) (by simp only [depT, depA]; rfl) (by simp only [GoodT, GoodA]; exact ⟨hnm, trivial, trivial⟩) (by simp only [toksT, toksA, List.append_nil]) hwq (fun _ => ⟨nm, .nil, rfl⟩)
          exact ⟨p0, vs, _, rfl, rfl, c5, vl, _, _, _, _, rfl, L6, LT6⟩
        · -- a word
          have ed : dq = dp := Wk.det hw3 hdp
          subst ed
          have ⟨h64, h123, h125⟩ := hzw.head
          refine ⟨_, rfl, rfl, false, bl_of ((dec_txt brO_mk).trans (decide_eq_false h123)), ?_⟩
          refine ⟨_, rfl, rfl, false, bl_of ((dec_txt brC_mk).trans (decide_eq_false h125)), ?_⟩
          have zs : (mkS z).length ≤ sizeLine := by rw [mkS_len]; exact Nat.le_trans zl.1 (by decide)
          refine ⟨_, rfl, mkS z, 0, _, rfl, rfl, zs, head0_at zl.2, rfl, false, bl_of ((dec_head zl.2).trans (decide_eq_false h64)), ?_⟩
          refine ⟨_, rfl, 1, rfl, zV, _, -1, _, rfl, rfl, SqL.of L.hV, at0, .inl ⟨rfl, _, SqL.of c0⟩, ?_⟩
          refine ⟨_, rfl, by show 2 ≤ sizeLine; decide, fun r nr => ?_⟩
          have L5 := L.new (o := .tup [kWord, sV z]) nr
          obtain ⟨vs, c5, vl, L6, LT6⟩ := addN _ (.ref r) (.word z .nil) L5 (by
            simp only [RepT]
            exact ⟨r, [], rfl, upd_same, rfl⟩) (by simp only [depT]) (by simp only [GoodT]; exact ⟨hzw, trivial⟩) (by simp only [toksT]) hwq (fun hf => by
              rw [free_snoc, decide_eq_false h125, decide_eq_false h64] at hf
              exact absurd hf (by decide))
          exact ⟨p0, vs, _, rfl, rfl, c5, vl, _, _, _, _, rfl, L6, LT6⟩
    · rintro σ' H' ⟨st, x2, x3, x4, rfl, L, LT⟩
      have et : ts.take (ts.map sV).length = ts := List.take_of_length_le (by rw [List.length_map]; exact Nat.le_refl _)
      rw [et] at LT
      obtain ⟨dp, el, hdp⟩ := LT.w
      have ed : dp = 0 := Wk.det hdp hw
      subst ed
      cases st with
      | nil => cases el
      | cons e0 s =>
        cases s with
        | cons _ _ => cases el
        | nil =>
          obtain ⟨p0, t0⟩ := e0
          obtain ⟨_, _, vs, c, r⟩ := L.ea (p0, t0) List.mem_cons_self
          refine ⟨_, rfl, zV, _, 0, .ref p0, rfl, rfl, SqL.of L.hV, rfl, p0, vs, rfl, .inl ⟨SqL.of c, fun x nx => ?_⟩⟩
          have h1 : depT t0 + 0 ≤ most := LT.dp.1
          exact q _ (.ref x) t0 (same_upd L.S nx) ⟨x, vs, rfl, upd_same, r.keep (TKeep.new nx)⟩ LT.fl (by omega) (LT.g _ List.mem_cons_self)
end
end Vf

set_option Elab.async false
set_option linter.all false
set_option maxRecDepth 100000
set_option maxHeartbeats 4000000
namespace Vf
open PySem PySem.Spec PyProof.Rows L2 TL
section
variable {P : Program} {w : World} {K : PySem.W.Frag} {mg : Str → Option Value} {base : Heap}
def spLaw (K : PySem.W.Frag) : Sp := fun vs H Q _ => ∃ (a : Addr) (ns : List Int), vs = [.ref a] ∧ SqL K H a (ns.map V.int) ∧ ns.length ≤ 63 ∧ ∀ H', Q (.bl true) H'
def WAt (H : Hp) (p : Addr) : Prop := ∃ v t, H p = some (.tup [v, sV (spaced (toksT t))]) ∧ TV H v t ∧ depT t < 22 ∧ GoodT t ∧ (toksT t).length ≤ 50000
theorem WAt.keep {H H' : Hp} {p : Addr} (h : WAt H p) (k : TKeep H H') : WAt H' p := by
  obtain ⟨v, t, a, b, c⟩ := h
  exact ⟨v, t, k _ _ a, b.keep k, c⟩
def spWorld : Sp := fun vs H Q _ => ∃ (d l : Addr), vs = [.ref d] ∧ DI d l H ∧ ∀ H' p, Kp d H H' → DI d l H' → WAt H' p → Q (.ref p) H'
theorem ok_world (T : Txt K mg) : FnOk P w K mg base CX0 28 T.a_law_world T.d_law_world ["_law_d"] spWorld := by
  have G_law_draw : FnOk P w K mg base CX0 1 T.a_law_draw T.d_law_draw ["_law_d", "_law_many"] spDraw := ok_draw T
  have G_law_drawn_tree : FnOk P w K mg base CX0 27 T.a_law_drawn_tree T.d_law_drawn_tree ["_law_d", "_law_most"] spDrawn := ok_drawn_tree T
  have G_law_nothing_defined : FnOk P w K mg base CX0 1 T.a_law_nothing_defined T.d_law_nothing_defined ["_law_tree_here"] spNothing := ok_nothing T
  have G_law_tokens_in : FnOk P w K mg base CX0 23 T.a_law_tokens_in T.d_law_tokens_in ["_law_tree_here"] (spTokensIn 22) := ok_tokens_in T 22
  have G_law_token_walk : FnOk P w K mg base CX0 5 T.a_law_token_walk T.d_law_token_walk ["_law_d", "_law_many", "_law_most"] spWalkT := ok_token_walk T
  have G_law_tree_of : FnOk P w K mg base CX0 1 T.a_law_tree_of T.d_law_tree_of ["_law_tokens"] (spTreeOf K) := ok_tree_of T
  refine T.D_law_world.F.ok sc_law_world (fun vs H Q E h => ?_) (fun cdv A outer s H vs Q E hr h => ?_)
  · obtain ⟨d, l, rfl, _⟩ := h
    rfl
  · obtain ⟨d, l, rfl, hD, q⟩ := h
    refine ⟨_, (pss_cons (ps_if (pt_cmpR op_eq (pe_call G_law_draw (hr.mono (by decide)) (by rfl) T.D_law_draw.G T.D_law_draw.F.kp T.D_law_draw.B .nil pass0 (pa_cons (pv 0) (pa_cons pe_int pa_nil))) pe_int (nomark _)) (pss_cons (ps_set (i := 1) sc_law_world.nd rfl (.inl rfl) (pe_call G_law_nothing_defined (hr.mono (by decide)) (by rfl) T.D_law_nothing_defined.G T.D_law_nothing_defined.F.kp T.D_law_nothing_defined.B .nil pass0 (pa_cons (pe_call G_law_drawn_tree (hr.mono (by decide)) (by rfl) T.D_law_drawn_tree.G T.D_law_drawn_tree.F.kp T.D_law_drawn_tree.B .nil pass0 (pa_cons (pv 0) (pa_cons pe_int pa_nil))) pa_nil)))
      (pss_one (ps_ret (pe_tup (pa_cons (pv 1) (pa_cons (pe_join pe_str (pe_call G_law_tokens_in (hr.mono (by decide)) (by rfl) T.D_law_tokens_in.G T.D_law_tokens_in.F.kp T.D_law_tokens_in.B .nil pass0 (pa_cons (pv 1) pa_nil))) pa_nil)))))) pss_nil)
      (pss_cons (ps_set (i := 2) sc_law_world.nd rfl (.inl rfl) (pe_call G_law_token_walk (hr.mono (by decide)) (by rfl) T.D_law_token_walk.G T.D_law_token_walk.F.kp T.D_law_token_walk.B .nil pass0 (pa_cons (pv 0) (pa_cons (pe_call G_law_draw (hr.mono (by decide)) (by rfl) T.D_law_draw.G T.D_law_draw.F.kp T.D_law_draw.B .nil pass0 (pa_cons (pv 0) (pa_cons pe_int pa_nil))) (pa_cons pe_int pa_nil)))))
      (pss_one (ps_ret (pe_tup (pa_cons (pe_call G_law_tree_of (hr.mono (by decide)) (by rfl) T.D_law_tree_of.G T.D_law_tree_of.F.kp T.D_law_tree_of.B .nil pass0 (pa_cons (pv 2) pa_nil)) (pa_cons (pe_join pe_str (pv 2)) pa_nil))))))), ?_⟩
    refine ⟨_, rfl, d, l, _, rfl, hD, by decide, fun H1 r K1 D1 _ r2 => ?_⟩
    refine ⟨rfl, _, rfl, ite2 (fun _ => ?_) (fun _ => ?_)⟩
    · refine ⟨_, rfl, d, l, 20, rfl, D1, by decide, by decide, fun H2 v t K2 D2 hv hd hg hb => ?_⟩
      refine ⟨v, t, rfl, hv, hg, by omega, fun H3 v' t' s3 hv' hd' hg' hb' => ?_⟩
      have D3 := D2.keep s3
      refine ⟨_, rfl, ⟨_, rfl⟩, _, rfl, v', t', rfl, hv', by omega, hg', by omega, fun H4 p s4 np e4 => ?_⟩
      refine ⟨_, p, (toksT t').map mkS, rfl, rfl, .inl (SqL.of (by rw [e4, map_sV])), ?_, ?_⟩
      · have := sum_le (zss := toksT t') (B := 17) fun z hz => (toksT_len hg' z hz).1
        rw [List.length_map, blank_len]
        omega
      · rw [join_sp]
        refine ⟨by show 2 ≤ sizeLine; decide, fun c nc => ?_⟩
        have k4 : Kp d H H4 := ((K1.trans K2).trans fun b o _ e => s3 b o e).trans fun b o _ e => s4 b o e
        have tk := (TKeep.same s4).trans (TKeep.new (o := .tup [v', sV (spaced (toksT t'))]) nc)
        exact q _ c (k4.new nc) ((D3.keep s4).new nc) ⟨v', t', upd_same, hv'.keep tk, by omega, hg', by omega⟩
    · refine ⟨_, rfl, _, rfl, d, l, _, rfl, D1, by decide, fun H2 r' K2 D2 _ e2 => ?_⟩
      have e3 := e2 (by decide)
      refine ⟨d, l, r', 20, rfl, D2, e3.1, by omega, by decide, by decide, fun H3 p ts K3 D3 _ e4 hw tl => ?_⟩
      refine ⟨_, rfl, p, ts, 20, rfl, SqL.of e4, hw, by omega, by decide, fun H4 v t s4 hv et hd hg => ?_⟩
      have e5 := s4 _ _ e4
      refine ⟨⟨_, rfl⟩, _, rfl, _, p, ts.map mkS, rfl, rfl, .inl (SqL.of (by rw [e5, map_sV])), ?_, ?_⟩
      · have := sum_le (zss := ts) (B := 17) fun z hz => (hw.tok_len z hz).1
        rw [List.length_map, blank_len]
        omega
      · rw [join_sp]
        refine ⟨by show 2 ≤ sizeLine; decide, fun c nc => ?_⟩
        have k4 : Kp d H H4 := (((K1.trans K2).trans K3).trans fun b o _ e => s4 b o e)
        have tk := TKeep.new (o := .tup [v, sV (spaced ts)]) nc
        refine q _ c (k4.new nc) ((D3.keep s4).new nc) ⟨v, t, ?_, hv.keep tk, by omega, hg, by rw [et]; omega⟩
        rw [et]
        exact upd_same
theorem ok_law (T : Txt K mg) : FnOk P w K mg base CX0 47 T.a_law T.d_law ["_law_script"] (spLaw K) := by
  have G_law_begin : FnOk P w K mg base CX0 1 T.a_law_begin T.d_law_begin ["_law_script"] (spBegin K) := ok_begin T
  have G_law_world : FnOk P w K mg base CX0 28 T.a_law_world T.d_law_world ["_law_d"] spWorld := ok_world T
  have G_write_tree : FnOk P w K mg base CX0 46 T.a_write_tree T.d_write_tree ["tree"] spWrite := ok_write T
  have G_law_exact : FnOk P w K mg base CX0 2 T.a_law_exact T.d_law_exact ["_law_told", "_law_due"] (spExact 1) := ok_exact T 1
  refine T.D_law.F.ok sc_law (fun vs H Q E h => ?_) (fun cdv A outer s H vs Q E hr h => ?_)
  · obtain ⟨a, ns, rfl, _⟩ := h
    rfl
  · obtain ⟨a, ns, rfl, hS, hl, q⟩ := h
    refine ⟨_, (pss_cons (ps_set (i := 1) sc_law.nd rfl (.inl rfl) (pe_call G_law_begin (hr.mono (by decide)) (by rfl) T.D_law_begin.G T.D_law_begin.F.kp T.D_law_begin.B .nil pass0 (pa_cons (pv 0) pa_nil)))
      (pss_cons (ps_set (i := 2) sc_law.nd rfl (.inl rfl) (pe_lst (pa_cons (pe_call G_law_world (hr.mono (by decide)) (by rfl) T.D_law_world.G T.D_law_world.F.kp T.D_law_world.B .nil pass0 (pa_cons (pv 1) pa_nil)) (pa_cons (pe_call G_law_world (hr.mono (by decide)) (by rfl) T.D_law_world.G T.D_law_world.F.kp T.D_law_world.B .nil pass0 (pa_cons (pv 1) pa_nil)) pa_nil))))
      (pss_cons (ps_for PassesOwn.never rfl (pi_tup (pe_tup (pa_cons pe_int (pa_cons pe_int (pa_cons pe_int pa_nil))))) (pg_name (i := 3) sc_law.nd rfl (.inl rfl)) (pss_cons (ps_asg (pe_ix ix_list (pv 2) (pv 3) (fun _ _ => rfl)) (pg_tup (by rfl) (pgs_cons (pg_name (i := 4) sc_law.nd rfl (.inl rfl)) (pgs_cons (pg_name (i := 5) sc_law.nd rfl (.inl rfl)) pgs_nil))))
      (pss_one (ps_if (pt_not (pt_val (pe_call G_law_exact (hr.mono (by decide)) (by rfl) T.D_law_exact.G T.D_law_exact.F.kp T.D_law_exact.B .nil pass0 (pa_cons (pe_call G_write_tree (hr.mono (by decide)) (by rfl) T.D_write_tree.G T.D_write_tree.F.kp T.D_write_tree.B .nil pass0 (pa_cons (pv 4) pa_nil)) (pa_cons (pv 5) pa_nil))))) (pss_one (ps_ret pe_bl)) pss_nil))))
      (pss_one (ps_ret pe_bl))))), ?_⟩
    refine ⟨_, rfl, a, ns, rfl, hS, hl, fun H1 d l s1 D1 => ?_⟩
    refine ⟨_, rfl, d, l, rfl, D1, fun H2 p1 K2 D2 w2 => ?_⟩
    refine ⟨_, rfl, d, l, rfl, D2, fun H3 p2 K3 D3 w3 => ?_⟩
    have w2' : WAt H3 p1 := w2.keep (TKeep.kp K3 D2)
    refine ⟨by show 2 ≤ sizeLine; decide, fun wl nw => ?_⟩
    have s3 : Same H3 (upd H3 wl (.lst [.ref p1, .ref p2])) := same_upd (Same.refl H3) nw
    refine ⟨by show 3 ≤ sizeLine; decide, fun r nr => ?_⟩
    have s4 : Same (upd H3 wl (.lst [.ref p1, .ref p2])) (upd (upd H3 wl (.lst [.ref p1, .ref p2])) r (.tup [.int 0, .int 1, .int 0])) := same_upd (Same.refl _) nr
    have tk := (TKeep.same s3).trans (TKeep.same s4)
    refine ⟨r, rfl, ⟨_, SqT.of upd_same⟩, ?_⟩
    refine for_tup (K := K) (a := r) (xs := [.int 0, .int 1, .int 0]) (fun i σ' H' => ∃ x3 x4 x5 : Option V, σ' = [some (.ref a), some (.ref d), some (.ref wl), x3, x4, x5] ∧ H' wl = some (.lst [.ref p1, .ref p2]) ∧ H' r = some (.tup [.int 0, .int 1, .int 0]) ∧ WAt H' p1 ∧ WAt H' p2)
      ⟨none, none, none, rfl, s4 _ _ upd_same, upd_same, w2'.keep tk, w3.keep tk⟩ ?_ ?_ ?_
    · rintro i σ' H' _ ⟨_, _, _, _, _, hr', _⟩
      exact SqT.of hr'
    · rintro i x σ' H' hx ⟨x3, x4, x5, rfl, hw, hr', v1, v2⟩
      obtain ⟨k, p, ex, ep, vp⟩ : ∃ (k : Nat) (p : Addr), x = .int (k : Int) ∧ ([V.ref p1, V.ref p2] : List V)[k]? = some (.ref p) ∧ WAt H' p := by
        match i, hx with
        | 0, hx => exact ⟨0, p1, (Option.some.inj hx).symm, rfl, v1⟩
        | 1, hx => exact ⟨1, p2, (Option.some.inj hx).symm, rfl, v2⟩
        | 2, hx => exact ⟨0, p1, (Option.some.inj hx).symm, rfl, v1⟩
        | _ + 3, hx => cases hx
      subst ex
      obtain ⟨v, t, e1, e2, e3, e4, e5⟩ := id vp
      refine ⟨_, rfl, _, rfl, wl, _, _, _, rfl, rfl, SqL.of hw, atI_nat ep, p, _, rfl, SqT.of e1, rfl, _, _, rfl, _, _, rfl, rfl, ?_⟩
      refine ⟨_, rfl, v, t, rfl, e2, e3, e4, e5, fun H4 s5 => ?_⟩
      have tk5 := TKeep.same s5
      refine ⟨_, rfl, _, _, rfl, .inl (.inl ⟨_, rfl, rfl⟩), true, rfl, ?_⟩
      exact ⟨_, _, _, rfl, s5 _ _ hw, s5 _ _ hr', v1.keep tk5, v2.keep tk5⟩
    · rintro σ' H' ⟨_, _, _, rfl, _⟩
      exact q H'
end
theorem all_mk {l : PySem.W.OpenLaw} {w : World} {K : PySem.W.Frag} {h : Heap} {mg : Str → Option Value} {fa : Addr} (X : K.In h) (G : h.Ns mainGlobals mg) (hfa : mg "law" = some (.ref fa))
    {f_write_tree : Addr} {od_write_tree an_write_tree : Option Addr} {sl_write_tree : Array (Option Value)} {oc_write_tree kV_write_tree dc_write_tree pm_write_tree cd_write_tree ct_write_tree : Value}
    (a_write_tree : PySem.W.nsIn K mainGlobals "write_tree" = some (some (.ref f_write_tree))) (l_write_tree : K.lookup f_write_tree = some ⟨oc_write_tree, od_write_tree, .func (PySem.W.fnOf "write_tree" "write_tree" (defArgs s_write_tree) (defBody s_write_tree) (defScope s_write_tree) .none kV_write_tree dc_write_tree pm_write_tree an_write_tree cd_write_tree ct_write_tree), sl_write_tree⟩) (c_write_tree : PySem.W.codeIn K cd_write_tree "write_tree" = true) (k_write_tree : PySem.W.keepIn K (.ref f_write_tree) = true)
    {f_put_tokens : Addr} {od_put_tokens an_put_tokens : Option Addr} {sl_put_tokens : Array (Option Value)} {oc_put_tokens kV_put_tokens dc_put_tokens pm_put_tokens cd_put_tokens ct_put_tokens : Value}
    (a_put_tokens : PySem.W.nsIn K mainGlobals "_put_tokens" = some (some (.ref f_put_tokens))) (l_put_tokens : K.lookup f_put_tokens = some ⟨oc_put_tokens, od_put_tokens, .func (PySem.W.fnOf "_put_tokens" "_put_tokens" (defArgs s_put_tokens) (defBody s_put_tokens) (defScope s_put_tokens) .none kV_put_tokens dc_put_tokens pm_put_tokens an_put_tokens cd_put_tokens ct_put_tokens), sl_put_tokens⟩) (c_put_tokens : PySem.W.codeIn K cd_put_tokens "_put_tokens" = true) (k_put_tokens : PySem.W.keepIn K (.ref f_put_tokens) = true)
    {f_put_call : Addr} {od_put_call an_put_call : Option Addr} {sl_put_call : Array (Option Value)} {oc_put_call kV_put_call dc_put_call pm_put_call cd_put_call ct_put_call : Value}
    (a_put_call : PySem.W.nsIn K mainGlobals "_put_call" = some (some (.ref f_put_call))) (l_put_call : K.lookup f_put_call = some ⟨oc_put_call, od_put_call, .func (PySem.W.fnOf "_put_call" "_put_call" (defArgs s_put_call) (defBody s_put_call) (defScope s_put_call) .none kV_put_call dc_put_call pm_put_call an_put_call cd_put_call ct_put_call), sl_put_call⟩) (c_put_call : PySem.W.codeIn K cd_put_call "_put_call" = true) (k_put_call : PySem.W.keepIn K (.ref f_put_call) = true)
    {f_law_begin : Addr} {od_law_begin an_law_begin : Option Addr} {sl_law_begin : Array (Option Value)} {oc_law_begin kV_law_begin dc_law_begin pm_law_begin cd_law_begin ct_law_begin : Value}
    (a_law_begin : PySem.W.nsIn K mainGlobals "_law_begin" = some (some (.ref f_law_begin))) (l_law_begin : K.lookup f_law_begin = some ⟨oc_law_begin, od_law_begin, .func (PySem.W.fnOf "_law_begin" "_law_begin" (defArgs s_law_begin) (defBody s_law_begin) (defScope s_law_begin) .none kV_law_begin dc_law_begin pm_law_begin an_law_begin cd_law_begin ct_law_begin), sl_law_begin⟩) (c_law_begin : PySem.W.codeIn K cd_law_begin "_law_begin" = true) (k_law_begin : PySem.W.keepIn K (.ref f_law_begin) = true)
    {f_law_draw : Addr} {od_law_draw an_law_draw : Option Addr} {sl_law_draw : Array (Option Value)} {oc_law_draw kV_law_draw dc_law_draw pm_law_draw cd_law_draw ct_law_draw : Value}
    (a_law_draw : PySem.W.nsIn K mainGlobals "_law_draw" = some (some (.ref f_law_draw))) (l_law_draw : K.lookup f_law_draw = some ⟨oc_law_draw, od_law_draw, .func (PySem.W.fnOf "_law_draw" "_law_draw" (defArgs s_law_draw) (defBody s_law_draw) (defScope s_law_draw) .none kV_law_draw dc_law_draw pm_law_draw an_law_draw cd_law_draw ct_law_draw), sl_law_draw⟩) (c_law_draw : PySem.W.codeIn K cd_law_draw "_law_draw" = true) (k_law_draw : PySem.W.keepIn K (.ref f_law_draw) = true)
    {f_law_pick : Addr} {od_law_pick an_law_pick : Option Addr} {sl_law_pick : Array (Option Value)} {oc_law_pick kV_law_pick dc_law_pick pm_law_pick cd_law_pick ct_law_pick : Value}
    (a_law_pick : PySem.W.nsIn K mainGlobals "_law_pick" = some (some (.ref f_law_pick))) (l_law_pick : K.lookup f_law_pick = some ⟨oc_law_pick, od_law_pick, .func (PySem.W.fnOf "_law_pick" "_law_pick" (defArgs s_law_pick) (defBody s_law_pick) (defScope s_law_pick) .none kV_law_pick dc_law_pick pm_law_pick an_law_pick cd_law_pick ct_law_pick), sl_law_pick⟩) (c_law_pick : PySem.W.codeIn K cd_law_pick "_law_pick" = true) (k_law_pick : PySem.W.keepIn K (.ref f_law_pick) = true)
    {f_law_rare : Addr} {od_law_rare an_law_rare : Option Addr} {sl_law_rare : Array (Option Value)} {oc_law_rare kV_law_rare dc_law_rare pm_law_rare cd_law_rare ct_law_rare : Value}
    (a_law_rare : PySem.W.nsIn K mainGlobals "_law_rare" = some (some (.ref f_law_rare))) (l_law_rare : K.lookup f_law_rare = some ⟨oc_law_rare, od_law_rare, .func (PySem.W.fnOf "_law_rare" "_law_rare" (defArgs s_law_rare) (defBody s_law_rare) (defScope s_law_rare) .none kV_law_rare dc_law_rare pm_law_rare an_law_rare cd_law_rare ct_law_rare), sl_law_rare⟩) (c_law_rare : PySem.W.codeIn K cd_law_rare "_law_rare" = true) (k_law_rare : PySem.W.keepIn K (.ref f_law_rare) = true)
    {f_law_word : Addr} {od_law_word an_law_word : Option Addr} {sl_law_word : Array (Option Value)} {oc_law_word kV_law_word dc_law_word pm_law_word cd_law_word ct_law_word : Value}
    (a_law_word : PySem.W.nsIn K mainGlobals "_law_word" = some (some (.ref f_law_word))) (l_law_word : K.lookup f_law_word = some ⟨oc_law_word, od_law_word, .func (PySem.W.fnOf "_law_word" "_law_word" (defArgs s_law_word) (defBody s_law_word) (defScope s_law_word) .none kV_law_word dc_law_word pm_law_word an_law_word cd_law_word ct_law_word), sl_law_word⟩) (c_law_word : PySem.W.codeIn K cd_law_word "_law_word" = true) (k_law_word : PySem.W.keepIn K (.ref f_law_word) = true)
    {f_law_exact : Addr} {od_law_exact an_law_exact : Option Addr} {sl_law_exact : Array (Option Value)} {oc_law_exact kV_law_exact dc_law_exact pm_law_exact cd_law_exact ct_law_exact : Value}
    (a_law_exact : PySem.W.nsIn K mainGlobals "_law_exact" = some (some (.ref f_law_exact))) (l_law_exact : K.lookup f_law_exact = some ⟨oc_law_exact, od_law_exact, .func (PySem.W.fnOf "_law_exact" "_law_exact" (defArgs s_law_exact) (defBody s_law_exact) (defScope s_law_exact) .none kV_law_exact dc_law_exact pm_law_exact an_law_exact cd_law_exact ct_law_exact), sl_law_exact⟩) (c_law_exact : PySem.W.codeIn K cd_law_exact "_law_exact" = true) (k_law_exact : PySem.W.keepIn K (.ref f_law_exact) = true)
    {f_law_word_signs : Addr} {od_law_word_signs an_law_word_signs : Option Addr} {sl_law_word_signs : Array (Option Value)} {oc_law_word_signs kV_law_word_signs dc_law_word_signs pm_law_word_signs cd_law_word_signs ct_law_word_signs : Value}
    (a_law_word_signs : PySem.W.nsIn K mainGlobals "_law_word_signs" = some (some (.ref f_law_word_signs))) (l_law_word_signs : K.lookup f_law_word_signs = some ⟨oc_law_word_signs, od_law_word_signs, .func (PySem.W.fnOf "_law_word_signs" "_law_word_signs" (defArgs s_law_word_signs) (defBody s_law_word_signs) (defScope s_law_word_signs) .none kV_law_word_signs dc_law_word_signs pm_law_word_signs an_law_word_signs cd_law_word_signs ct_law_word_signs), sl_law_word_signs⟩) (c_law_word_signs : PySem.W.codeIn K cd_law_word_signs "_law_word_signs" = true) (k_law_word_signs : PySem.W.keepIn K (.ref f_law_word_signs) = true)
    {f_law_run : Addr} {od_law_run an_law_run : Option Addr} {sl_law_run : Array (Option Value)} {oc_law_run kV_law_run dc_law_run pm_law_run cd_law_run ct_law_run : Value}
    (a_law_run : PySem.W.nsIn K mainGlobals "_law_run" = some (some (.ref f_law_run))) (l_law_run : K.lookup f_law_run = some ⟨oc_law_run, od_law_run, .func (PySem.W.fnOf "_law_run" "_law_run" (defArgs s_law_run) (defBody s_law_run) (defScope s_law_run) .none kV_law_run dc_law_run pm_law_run an_law_run cd_law_run ct_law_run), sl_law_run⟩) (c_law_run : PySem.W.codeIn K cd_law_run "_law_run" = true) (k_law_run : PySem.W.keepIn K (.ref f_law_run) = true)
    {f_law_some_word : Addr} {od_law_some_word an_law_some_word : Option Addr} {sl_law_some_word : Array (Option Value)} {oc_law_some_word kV_law_some_word dc_law_some_word pm_law_some_word cd_law_some_word ct_law_some_word : Value}
    (a_law_some_word : PySem.W.nsIn K mainGlobals "_law_some_word" = some (some (.ref f_law_some_word))) (l_law_some_word : K.lookup f_law_some_word = some ⟨oc_law_some_word, od_law_some_word, .func (PySem.W.fnOf "_law_some_word" "_law_some_word" (defArgs s_law_some_word) (defBody s_law_some_word) (defScope s_law_some_word) .none kV_law_some_word dc_law_some_word pm_law_some_word an_law_some_word cd_law_some_word ct_law_some_word), sl_law_some_word⟩) (c_law_some_word : PySem.W.codeIn K cd_law_some_word "_law_some_word" = true) (k_law_some_word : PySem.W.keepIn K (.ref f_law_some_word) = true)
    {f_law_some_name : Addr} {od_law_some_name an_law_some_name : Option Addr} {sl_law_some_name : Array (Option Value)} {oc_law_some_name kV_law_some_name dc_law_some_name pm_law_some_name cd_law_some_name ct_law_some_name : Value}
    (a_law_some_name : PySem.W.nsIn K mainGlobals "_law_some_name" = some (some (.ref f_law_some_name))) (l_law_some_name : K.lookup f_law_some_name = some ⟨oc_law_some_name, od_law_some_name, .func (PySem.W.fnOf "_law_some_name" "_law_some_name" (defArgs s_law_some_name) (defBody s_law_some_name) (defScope s_law_some_name) .none kV_law_some_name dc_law_some_name pm_law_some_name an_law_some_name cd_law_some_name ct_law_some_name), sl_law_some_name⟩) (c_law_some_name : PySem.W.codeIn K cd_law_some_name "_law_some_name" = true) (k_law_some_name : PySem.W.keepIn K (.ref f_law_some_name) = true)
    {f_law_tree : Addr} {od_law_tree an_law_tree : Option Addr} {sl_law_tree : Array (Option Value)} {oc_law_tree kV_law_tree dc_law_tree pm_law_tree cd_law_tree ct_law_tree : Value}
    (a_law_tree : PySem.W.nsIn K mainGlobals "_law_tree" = some (some (.ref f_law_tree))) (l_law_tree : K.lookup f_law_tree = some ⟨oc_law_tree, od_law_tree, .func (PySem.W.fnOf "_law_tree" "_law_tree" (defArgs s_law_tree) (defBody s_law_tree) (defScope s_law_tree) .none kV_law_tree dc_law_tree pm_law_tree an_law_tree cd_law_tree ct_law_tree), sl_law_tree⟩) (c_law_tree : PySem.W.codeIn K cd_law_tree "_law_tree" = true) (k_law_tree : PySem.W.keepIn K (.ref f_law_tree) = true)
    {f_law_wrapped : Addr} {od_law_wrapped an_law_wrapped : Option Addr} {sl_law_wrapped : Array (Option Value)} {oc_law_wrapped kV_law_wrapped dc_law_wrapped pm_law_wrapped cd_law_wrapped ct_law_wrapped : Value}
    (a_law_wrapped : PySem.W.nsIn K mainGlobals "_law_wrapped" = some (some (.ref f_law_wrapped))) (l_law_wrapped : K.lookup f_law_wrapped = some ⟨oc_law_wrapped, od_law_wrapped, .func (PySem.W.fnOf "_law_wrapped" "_law_wrapped" (defArgs s_law_wrapped) (defBody s_law_wrapped) (defScope s_law_wrapped) .none kV_law_wrapped dc_law_wrapped pm_law_wrapped an_law_wrapped cd_law_wrapped ct_law_wrapped), sl_law_wrapped⟩) (c_law_wrapped : PySem.W.codeIn K cd_law_wrapped "_law_wrapped" = true) (k_law_wrapped : PySem.W.keepIn K (.ref f_law_wrapped) = true)
    {f_law_drawn_tree : Addr} {od_law_drawn_tree an_law_drawn_tree : Option Addr} {sl_law_drawn_tree : Array (Option Value)} {oc_law_drawn_tree kV_law_drawn_tree dc_law_drawn_tree pm_law_drawn_tree cd_law_drawn_tree ct_law_drawn_tree : Value}
    (a_law_drawn_tree : PySem.W.nsIn K mainGlobals "_law_drawn_tree" = some (some (.ref f_law_drawn_tree))) (l_law_drawn_tree : K.lookup f_law_drawn_tree = some ⟨oc_law_drawn_tree, od_law_drawn_tree, .func (PySem.W.fnOf "_law_drawn_tree" "_law_drawn_tree" (defArgs s_law_drawn_tree) (defBody s_law_drawn_tree) (defScope s_law_drawn_tree) .none kV_law_drawn_tree dc_law_drawn_tree pm_law_drawn_tree an_law_drawn_tree cd_law_drawn_tree ct_law_drawn_tree), sl_law_drawn_tree⟩) (c_law_drawn_tree : PySem.W.codeIn K cd_law_drawn_tree "_law_drawn_tree" = true) (k_law_drawn_tree : PySem.W.keepIn K (.ref f_law_drawn_tree) = true)
    {f_law_tokens_in : Addr} {od_law_tokens_in an_law_tokens_in : Option Addr} {sl_law_tokens_in : Array (Option Value)} {oc_law_tokens_in kV_law_tokens_in dc_law_tokens_in pm_law_tokens_in cd_law_tokens_in ct_law_tokens_in : Value}
    (a_law_tokens_in : PySem.W.nsIn K mainGlobals "_law_tokens_in" = some (some (.ref f_law_tokens_in))) (l_law_tokens_in : K.lookup f_law_tokens_in = some ⟨oc_law_tokens_in, od_law_tokens_in, .func (PySem.W.fnOf "_law_tokens_in" "_law_tokens_in" (defArgs s_law_tokens_in) (defBody s_law_tokens_in) (defScope s_law_tokens_in) .none kV_law_tokens_in dc_law_tokens_in pm_law_tokens_in an_law_tokens_in cd_law_tokens_in ct_law_tokens_in), sl_law_tokens_in⟩) (c_law_tokens_in : PySem.W.codeIn K cd_law_tokens_in "_law_tokens_in" = true) (k_law_tokens_in : PySem.W.keepIn K (.ref f_law_tokens_in) = true)
    {f_law_token_walk : Addr} {od_law_token_walk an_law_token_walk : Option Addr} {sl_law_token_walk : Array (Option Value)} {oc_law_token_walk kV_law_token_walk dc_law_token_walk pm_law_token_walk cd_law_token_walk ct_law_token_walk : Value}
    (a_law_token_walk : PySem.W.nsIn K mainGlobals "_law_token_walk" = some (some (.ref f_law_token_walk))) (l_law_token_walk : K.lookup f_law_token_walk = some ⟨oc_law_token_walk, od_law_token_walk, .func (PySem.W.fnOf "_law_token_walk" "_law_token_walk" (defArgs s_law_token_walk) (defBody s_law_token_walk) (defScope s_law_token_walk) .none kV_law_token_walk dc_law_token_walk pm_law_token_walk an_law_token_walk cd_law_token_walk ct_law_token_walk), sl_law_token_walk⟩) (c_law_token_walk : PySem.W.codeIn K cd_law_token_walk "_law_token_walk" = true) (k_law_token_walk : PySem.W.keepIn K (.ref f_law_token_walk) = true)
    {f_law_tree_of : Addr} {od_law_tree_of an_law_tree_of : Option Addr} {sl_law_tree_of : Array (Option Value)} {oc_law_tree_of kV_law_tree_of dc_law_tree_of pm_law_tree_of cd_law_tree_of ct_law_tree_of : Value}
    (a_law_tree_of : PySem.W.nsIn K mainGlobals "_law_tree_of" = some (some (.ref f_law_tree_of))) (l_law_tree_of : K.lookup f_law_tree_of = some ⟨oc_law_tree_of, od_law_tree_of, .func (PySem.W.fnOf "_law_tree_of" "_law_tree_of" (defArgs s_law_tree_of) (defBody s_law_tree_of) (defScope s_law_tree_of) .none kV_law_tree_of dc_law_tree_of pm_law_tree_of an_law_tree_of cd_law_tree_of ct_law_tree_of), sl_law_tree_of⟩) (c_law_tree_of : PySem.W.codeIn K cd_law_tree_of "_law_tree_of" = true) (k_law_tree_of : PySem.W.keepIn K (.ref f_law_tree_of) = true)
    {f_law_nothing_defined : Addr} {od_law_nothing_defined an_law_nothing_defined : Option Addr} {sl_law_nothing_defined : Array (Option Value)} {oc_law_nothing_defined kV_law_nothing_defined dc_law_nothing_defined pm_law_nothing_defined cd_law_nothing_defined ct_law_nothing_defined : Value}
    (a_law_nothing_defined : PySem.W.nsIn K mainGlobals "_law_nothing_defined" = some (some (.ref f_law_nothing_defined))) (l_law_nothing_defined : K.lookup f_law_nothing_defined = some ⟨oc_law_nothing_defined, od_law_nothing_defined, .func (PySem.W.fnOf "_law_nothing_defined" "_law_nothing_defined" (defArgs s_law_nothing_defined) (defBody s_law_nothing_defined) (defScope s_law_nothing_defined) .none kV_law_nothing_defined dc_law_nothing_defined pm_law_nothing_defined an_law_nothing_defined cd_law_nothing_defined ct_law_nothing_defined), sl_law_nothing_defined⟩) (c_law_nothing_defined : PySem.W.codeIn K cd_law_nothing_defined "_law_nothing_defined" = true) (k_law_nothing_defined : PySem.W.keepIn K (.ref f_law_nothing_defined) = true)
    {f_law_world : Addr} {od_law_world an_law_world : Option Addr} {sl_law_world : Array (Option Value)} {oc_law_world kV_law_world dc_law_world pm_law_world cd_law_world ct_law_world : Value}
    (a_law_world : PySem.W.nsIn K mainGlobals "_law_world" = some (some (.ref f_law_world))) (l_law_world : K.lookup f_law_world = some ⟨oc_law_world, od_law_world, .func (PySem.W.fnOf "_law_world" "_law_world" (defArgs s_law_world) (defBody s_law_world) (defScope s_law_world) .none kV_law_world dc_law_world pm_law_world an_law_world cd_law_world ct_law_world), sl_law_world⟩) (c_law_world : PySem.W.codeIn K cd_law_world "_law_world" = true) (k_law_world : PySem.W.keepIn K (.ref f_law_world) = true)
    {f_law : Addr} {od_law an_law : Option Addr} {sl_law : Array (Option Value)} {oc_law kV_law dc_law pm_law cd_law ct_law : Value}
    (a_law : PySem.W.nsIn K mainGlobals "law" = some (some (.ref f_law))) (l_law : K.lookup f_law = some ⟨oc_law, od_law, .func (PySem.W.fnOf "law" "law" (defArgs s_law) (defBody s_law) (defScope s_law) .none kV_law dc_law pm_law an_law cd_law ct_law), sl_law⟩) (c_law : PySem.W.codeIn K cd_law "law" = true) (k_law : PySem.W.keepIn K (.ref f_law) = true)
    (n_bool : PySem.W.nsIn K mainGlobals "bool" = some none)
    (n_int : PySem.W.nsIn K mainGlobals "int" = some none)
    (n_isinstance : PySem.W.nsIn K mainGlobals "isinstance" = some none)
    (n_len : PySem.W.nsIn K mainGlobals "len" = some none)
    (n_list : PySem.W.nsIn K mainGlobals "list" = some none)
    (n_range : PySem.W.nsIn K mainGlobals "range" = some none)
    (n_str : PySem.W.nsIn K mainGlobals "str" = some none)
    (n_tuple : PySem.W.nsIn K mainGlobals "tuple" = some none)
    : ∃ fd : FuncData, (∀ (s : Shared) (v : Value), BindsTo s fd ⟨[v], []⟩ [("_law_script", v)]) ∧ ∀ base : Heap, K.In base → base.Ns mainGlobals mg → FnOk l.prog w K mg base CX0 47 fa fd ["_law_script"] (spLaw K) := by
  have e := hfa.symm.trans (PySem.W.mg_of X G a_law)
  cases e
  have F_write_tree := fun_mk (st := s_write_tree) l_write_tree c_write_tree k_write_tree
  have b_write_tree := F_write_tree.binds (ps := ["tree"]) fun _ _ _ _ _ _ us hl => match us, hl with | [_], _ => rfl
  have F_put_tokens := fun_mk (st := s_put_tokens) l_put_tokens c_put_tokens k_put_tokens
  have b_put_tokens := F_put_tokens.binds (ps := ["tree", "tokens"]) fun _ _ _ _ _ _ us hl => match us, hl with | [_, _], _ => rfl
  have F_put_call := fun_mk (st := s_put_call) l_put_call c_put_call k_put_call
  have b_put_call := F_put_call.binds (ps := ["node", "tokens"]) fun _ _ _ _ _ _ us hl => match us, hl with | [_, _], _ => rfl
  have F_law_begin := fun_mk (st := s_law_begin) l_law_begin c_law_begin k_law_begin
  have b_law_begin := F_law_begin.binds (ps := ["_law_script"]) fun _ _ _ _ _ _ us hl => match us, hl with | [_], _ => rfl
  have F_law_draw := fun_mk (st := s_law_draw) l_law_draw c_law_draw k_law_draw
  have b_law_draw := F_law_draw.binds (ps := ["_law_d", "_law_many"]) fun _ _ _ _ _ _ us hl => match us, hl with | [_, _], _ => rfl
  have F_law_pick := fun_mk (st := s_law_pick) l_law_pick c_law_pick k_law_pick
  have b_law_pick := F_law_pick.binds (ps := ["_law_d", "_law_row"]) fun _ _ _ _ _ _ us hl => match us, hl with | [_, _], _ => rfl
  have F_law_rare := fun_mk (st := s_law_rare) l_law_rare c_law_rare k_law_rare
  have b_law_rare := F_law_rare.binds (ps := ["_law_d", "_law_many"]) fun _ _ _ _ _ _ us hl => match us, hl with | [_, _], _ => rfl
  have F_law_word := fun_mk (st := s_law_word) l_law_word c_law_word k_law_word
  have b_law_word := F_law_word.binds (ps := ["_law_d", "_law_low", "_law_high"]) fun _ _ _ _ _ _ us hl => match us, hl with | [_, _, _], _ => rfl
  have F_law_exact := fun_mk (st := s_law_exact) l_law_exact c_law_exact k_law_exact
  have b_law_exact := F_law_exact.binds (ps := ["_law_told", "_law_due"]) fun _ _ _ _ _ _ us hl => match us, hl with | [_, _], _ => rfl
  have F_law_word_signs := fun_mk (st := s_law_word_signs) l_law_word_signs c_law_word_signs k_law_word_signs
  have b_law_word_signs := F_law_word_signs.binds (ps := []) fun _ _ _ _ _ _ us hl => match us, hl with | [], _ => rfl
  have F_law_run := fun_mk (st := s_law_run) l_law_run c_law_run k_law_run
  have b_law_run := F_law_run.binds (ps := ["_law_d", "_law_signs", "_law_size"]) fun _ _ _ _ _ _ us hl => match us, hl with | [_, _, _], _ => rfl
  have F_law_some_word := fun_mk (st := s_law_some_word) l_law_some_word c_law_some_word k_law_some_word
  have b_law_some_word := F_law_some_word.binds (ps := ["_law_d"]) fun _ _ _ _ _ _ us hl => match us, hl with | [_], _ => rfl
  have F_law_some_name := fun_mk (st := s_law_some_name) l_law_some_name c_law_some_name k_law_some_name
  have b_law_some_name := F_law_some_name.binds (ps := ["_law_d"]) fun _ _ _ _ _ _ us hl => match us, hl with | [_], _ => rfl
  have F_law_tree := fun_mk (st := s_law_tree) l_law_tree c_law_tree k_law_tree
  have b_law_tree := F_law_tree.binds (ps := ["_law_d", "_law_deep", "_law_left"]) fun _ _ _ _ _ _ us hl => match us, hl with | [_, _, _], _ => rfl
  have F_law_wrapped := fun_mk (st := s_law_wrapped) l_law_wrapped c_law_wrapped k_law_wrapped
  have b_law_wrapped := F_law_wrapped.binds (ps := ["_law_d", "_law_tree_here"]) fun _ _ _ _ _ _ us hl => match us, hl with | [_, _], _ => rfl
  have F_law_drawn_tree := fun_mk (st := s_law_drawn_tree) l_law_drawn_tree c_law_drawn_tree k_law_drawn_tree
  have b_law_drawn_tree := F_law_drawn_tree.binds (ps := ["_law_d", "_law_most"]) fun _ _ _ _ _ _ us hl => match us, hl with | [_, _], _ => rfl
  have F_law_tokens_in := fun_mk (st := s_law_tokens_in) l_law_tokens_in c_law_tokens_in k_law_tokens_in
  have b_law_tokens_in := F_law_tokens_in.binds (ps := ["_law_tree_here"]) fun _ _ _ _ _ _ us hl => match us, hl with | [_], _ => rfl
  have F_law_token_walk := fun_mk (st := s_law_token_walk) l_law_token_walk c_law_token_walk k_law_token_walk
  have b_law_token_walk := F_law_token_walk.binds (ps := ["_law_d", "_law_many", "_law_most"]) fun _ _ _ _ _ _ us hl => match us, hl with | [_, _, _], _ => rfl
  have F_law_tree_of := fun_mk (st := s_law_tree_of) l_law_tree_of c_law_tree_of k_law_tree_of
  have b_law_tree_of := F_law_tree_of.binds (ps := ["_law_tokens"]) fun _ _ _ _ _ _ us hl => match us, hl with | [_], _ => rfl
  have F_law_nothing_defined := fun_mk (st := s_law_nothing_defined) l_law_nothing_defined c_law_nothing_defined k_law_nothing_defined
  have b_law_nothing_defined := F_law_nothing_defined.binds (ps := ["_law_tree_here"]) fun _ _ _ _ _ _ us hl => match us, hl with | [_], _ => rfl
  have F_law_world := fun_mk (st := s_law_world) l_law_world c_law_world k_law_world
  have b_law_world := F_law_world.binds (ps := ["_law_d"]) fun _ _ _ _ _ _ us hl => match us, hl with | [_], _ => rfl
  have F_law := fun_mk (st := s_law) l_law c_law k_law
  have b_law := F_law.binds (ps := ["_law_script"]) fun _ _ _ _ _ _ us hl => match us, hl with | [_], _ => rfl
  exact ⟨PySem.W.fnOf "law" "law" (defArgs s_law) (defBody s_law) (defScope s_law) .none kV_law dc_law pm_law an_law cd_law ct_law, fun s v => .of_eq rfl, fun base _ _ => ok_law (T := {
    a_write_tree := _,
    d_write_tree := _,
    D_write_tree := ⟨F_write_tree, PySem.W.mg_of X G a_write_tree, b_write_tree, ⟨_, _, _, _, _, _, rfl⟩⟩,
    a_put_tokens := _,
    d_put_tokens := _,
    D_put_tokens := ⟨F_put_tokens, PySem.W.mg_of X G a_put_tokens, b_put_tokens, ⟨_, _, _, _, _, _, rfl⟩⟩,
    a_put_call := _,
    d_put_call := _,
    D_put_call := ⟨F_put_call, PySem.W.mg_of X G a_put_call, b_put_call, ⟨_, _, _, _, _, _, rfl⟩⟩,
    a_law_begin := _,
    d_law_begin := _,
    D_law_begin := ⟨F_law_begin, PySem.W.mg_of X G a_law_begin, b_law_begin, ⟨_, _, _, _, _, _, rfl⟩⟩,
    a_law_draw := _,
    d_law_draw := _,
    D_law_draw := ⟨F_law_draw, PySem.W.mg_of X G a_law_draw, b_law_draw, ⟨_, _, _, _, _, _, rfl⟩⟩,
    a_law_pick := _,
    d_law_pick := _,
    D_law_pick := ⟨F_law_pick, PySem.W.mg_of X G a_law_pick, b_law_pick, ⟨_, _, _, _, _, _, rfl⟩⟩,
    a_law_rare := _,
    d_law_rare := _,
    D_law_rare := ⟨F_law_rare, PySem.W.mg_of X G a_law_rare, b_law_rare, ⟨_, _, _, _, _, _, rfl⟩⟩,
    a_law_word := _,
    d_law_word := _,
    D_law_word := ⟨F_law_word, PySem.W.mg_of X G a_law_word, b_law_word, ⟨_, _, _, _, _, _, rfl⟩⟩,
    a_law_exact := _,
    d_law_exact := _,
    D_law_exact := ⟨F_law_exact, PySem.W.mg_of X G a_law_exact, b_law_exact, ⟨_, _, _, _, _, _, rfl⟩⟩,
    a_law_word_signs := _,
    d_law_word_signs := _,
    D_law_word_signs := ⟨F_law_word_signs, PySem.W.mg_of X G a_law_word_signs, b_law_word_signs, ⟨_, _, _, _, _, _, rfl⟩⟩,
    a_law_run := _,
    d_law_run := _,
    D_law_run := ⟨F_law_run, PySem.W.mg_of X G a_law_run, b_law_run, ⟨_, _, _, _, _, _, rfl⟩⟩,
    a_law_some_word := _,
    d_law_some_word := _,
    D_law_some_word := ⟨F_law_some_word, PySem.W.mg_of X G a_law_some_word, b_law_some_word, ⟨_, _, _, _, _, _, rfl⟩⟩,
    a_law_some_name := _,
    d_law_some_name := _,
    D_law_some_name := ⟨F_law_some_name, PySem.W.mg_of X G a_law_some_name, b_law_some_name, ⟨_, _, _, _, _, _, rfl⟩⟩,
    a_law_tree := _,
    d_law_tree := _,
    D_law_tree := ⟨F_law_tree, PySem.W.mg_of X G a_law_tree, b_law_tree, ⟨_, _, _, _, _, _, rfl⟩⟩,
    a_law_wrapped := _,
    d_law_wrapped := _,
    D_law_wrapped := ⟨F_law_wrapped, PySem.W.mg_of X G a_law_wrapped, b_law_wrapped, ⟨_, _, _, _, _, _, rfl⟩⟩,
    a_law_drawn_tree := _,
    d_law_drawn_tree := _,
    D_law_drawn_tree := ⟨F_law_drawn_tree, PySem.W.mg_of X G a_law_drawn_tree, b_law_drawn_tree, ⟨_, _, _, _, _, _, rfl⟩⟩,
    a_law_tokens_in := _,
    d_law_tokens_in := _,
    D_law_tokens_in := ⟨F_law_tokens_in, PySem.W.mg_of X G a_law_tokens_in, b_law_tokens_in, ⟨_, _, _, _, _, _, rfl⟩⟩,
    a_law_token_walk := _,
    d_law_token_walk := _,
    D_law_token_walk := ⟨F_law_token_walk, PySem.W.mg_of X G a_law_token_walk, b_law_token_walk, ⟨_, _, _, _, _, _, rfl⟩⟩,
    a_law_tree_of := _,
    d_law_tree_of := _,
    D_law_tree_of := ⟨F_law_tree_of, PySem.W.mg_of X G a_law_tree_of, b_law_tree_of, ⟨_, _, _, _, _, _, rfl⟩⟩,
    a_law_nothing_defined := _,
    d_law_nothing_defined := _,
    D_law_nothing_defined := ⟨F_law_nothing_defined, PySem.W.mg_of X G a_law_nothing_defined, b_law_nothing_defined, ⟨_, _, _, _, _, _, rfl⟩⟩,
    a_law_world := _,
    d_law_world := _,
    D_law_world := ⟨F_law_world, PySem.W.mg_of X G a_law_world, b_law_world, ⟨_, _, _, _, _, _, rfl⟩⟩,
    a_law := _,
    d_law := _,
    D_law := ⟨F_law, PySem.W.mg_of X G a_law, b_law, ⟨_, _, _, _, _, _, rfl⟩⟩,
    n_bool := PySem.W.mg_none_of X G n_bool,
    n_int := PySem.W.mg_none_of X G n_int,
    n_isinstance := PySem.W.mg_none_of X G n_isinstance,
    n_len := PySem.W.mg_none_of X G n_len,
    n_list := PySem.W.mg_none_of X G n_list,
    n_range := PySem.W.mg_none_of X G n_range,
    n_str := PySem.W.mg_none_of X G n_str,
    n_tuple := PySem.W.mg_none_of X G n_tuple })⟩
end Vf
open PySem PySem.W PyProof.Rows
set_option maxHeartbeats 0 in
theorem PySem.Challenge.cw_hushedpages_k06_trees_written_holds : PySem.Challenge.rw_hushedpages_k06_trees_written.Holds := by
  w_on; o_law; k_head; (case hw => w_witness2)
  k_fill
  refine L2.walk_of (l := PySem.Challenge.rw_hushedpages_k06_trees_written) (n := 63) (k := 47) (x := "_law_script") (CX := fun _ => L2.CX0) (sp := fun w => Vf.spLaw _) rfl (by decide) rfl ⟨rfl, by decide, by decide⟩ (fun w h Y => PySem.W.kIn_of Y) ?F (fun _ _ a ns hl _ hS => ⟨a, ns, rfl, hS, hl, fun _ => rfl⟩) (fun _ _ _ _ _ h => h)
  case F =>
    intro w mg fa h KX G hmg
    refine' Vf.all_mk KX G hmg ?a_write_tree ?l_write_tree ?c_write_tree ?k_write_tree ?a_put_tokens ?l_put_tokens ?c_put_tokens ?k_put_tokens ?a_put_call ?l_put_call ?c_put_call ?k_put_call ?a_law_begin ?l_law_begin ?c_law_begin ?k_law_begin ?a_law_draw ?l_law_draw ?c_law_draw ?k_law_draw ?a_law_pick ?l_law_pick ?c_law_pick ?k_law_pick ?a_law_rare ?l_law_rare ?c_law_rare ?k_law_rare ?a_law_word ?l_law_word ?c_law_word ?k_law_word ?a_law_exact ?l_law_exact ?c_law_exact ?k_law_exact ?a_law_word_signs ?l_law_word_signs ?c_law_word_signs ?k_law_word_signs ?a_law_run ?l_law_run ?c_law_run ?k_law_run ?a_law_some_word ?l_law_some_word ?c_law_some_word ?k_law_some_word ?a_law_some_name ?l_law_some_name ?c_law_some_name ?k_law_some_name ?a_law_tree ?l_law_tree ?c_law_tree ?k_law_tree ?a_law_wrapped ?l_law_wrapped ?c_law_wrapped ?k_law_wrapped ?a_law_drawn_tree ?l_law_drawn_tree ?c_law_drawn_tree ?k_law_drawn_tree ?a_law_tokens_in ?l_law_tokens_in ?c_law_tokens_in ?k_law_tokens_in ?a_law_token_walk ?l_law_token_walk ?c_law_token_walk ?k_law_token_walk ?a_law_tree_of ?l_law_tree_of ?c_law_tree_of ?k_law_tree_of ?a_law_nothing_defined ?l_law_nothing_defined ?c_law_nothing_defined ?k_law_nothing_defined ?a_law_world ?l_law_world ?c_law_world ?k_law_world ?a_law ?l_law ?c_law ?k_law ?n_bool ?n_int ?n_isinstance ?n_len ?n_list ?n_range ?n_str ?n_tuple
    (case a_write_tree => k_is)
    (case l_write_tree => k_is)
    (case c_write_tree => k_is)
    (case k_write_tree => k_is)
    (case a_put_tokens => k_is)
    (case l_put_tokens => k_is)
    (case c_put_tokens => k_is)
    (case k_put_tokens => k_is)
    (case a_put_call => k_is)
    (case l_put_call => k_is)
    (case c_put_call => k_is)
    (case k_put_call => k_is)
    (case a_law_begin => k_is)
    (case l_law_begin => k_is)
    (case c_law_begin => k_is)
    (case k_law_begin => k_is)
    (case a_law_draw => k_is)
    (case l_law_draw => k_is)
    (case c_law_draw => k_is)
    (case k_law_draw => k_is)
    (case a_law_pick => k_is)
    (case l_law_pick => k_is)
    (case c_law_pick => k_is)
    (case k_law_pick => k_is)
    (case a_law_rare => k_is)
    (case l_law_rare => k_is)
    (case c_law_rare => k_is)
    (case k_law_rare => k_is)
    (case a_law_word => k_is)
    (case l_law_word => k_is)
    (case c_law_word => k_is)
    (case k_law_word => k_is)
    (case a_law_exact => k_is)
    (case l_law_exact => k_is)
    (case c_law_exact => k_is)
    (case k_law_exact => k_is)
    (case a_law_word_signs => k_is)
    (case l_law_word_signs => k_is)
    (case c_law_word_signs => k_is)
    (case k_law_word_signs => k_is)
    (case a_law_run => k_is)
    (case l_law_run => k_is)
    (case c_law_run => k_is)
    (case k_law_run => k_is)
    (case a_law_some_word => k_is)
    (case l_law_some_word => k_is)
    (case c_law_some_word => k_is)
    (case k_law_some_word => k_is)
    (case a_law_some_name => k_is)
    (case l_law_some_name => k_is)
    (case c_law_some_name => k_is)
    (case k_law_some_name => k_is)
    (case a_law_tree => k_is)
    (case l_law_tree => k_is)
    (case c_law_tree => k_is)
    (case k_law_tree => k_is)
    (case a_law_wrapped => k_is)
    (case l_law_wrapped => k_is)
    (case c_law_wrapped => k_is)
    (case k_law_wrapped => k_is)
    (case a_law_drawn_tree => k_is)
    (case l_law_drawn_tree => k_is)
    (case c_law_drawn_tree => k_is)
    (case k_law_drawn_tree => k_is)
    (case a_law_tokens_in => k_is)
    (case l_law_tokens_in => k_is)
    (case c_law_tokens_in => k_is)
    (case k_law_tokens_in => k_is)
    (case a_law_token_walk => k_is)
    (case l_law_token_walk => k_is)
    (case c_law_token_walk => k_is)
    (case k_law_token_walk => k_is)
    (case a_law_tree_of => k_is)
    (case l_law_tree_of => k_is)
    (case c_law_tree_of => k_is)
    (case k_law_tree_of => k_is)
    (case a_law_nothing_defined => k_is)
    (case l_law_nothing_defined => k_is)
    (case c_law_nothing_defined => k_is)
    (case k_law_nothing_defined => k_is)
    (case a_law_world => k_is)
    (case l_law_world => k_is)
    (case c_law_world => k_is)
    (case k_law_world => k_is)
    (case a_law => k_is)
    (case l_law => k_is)
    (case c_law => k_is)
    (case k_law => k_is)
    (case n_bool => k_is)
    (case n_int => k_is)
    (case n_isinstance => k_is)
    (case n_len => k_is)
    (case n_list => k_is)
    (case n_range => k_is)
    (case n_str => k_is)
    (case n_tuple => k_is)
